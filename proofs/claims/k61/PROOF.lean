import PyProof.Rows.All
import Wide.All
import OpenK.AllK
import Wide.FinOn
import Lean
import PyProof.EqAt
import PyProof.EqKinds
import PyProof.TupleCall
import PyProof.NeKinds
import KE.KDictOf
import PyProof.AttrMissHeap
import PyProof.WalksMore
import PyProof.MeetsDict
import KE.KDictList
import KE.KRevIter
import PyProof.DictItemsLoops
import PyProof.DictWalks
import KE.KSortTup
import KE.KDictSum
import PyProof.SumAny
import PyProof.Conv_int_bool
import PyProof.Conv_int
import KE.KRevSl
import PyProof.MeetsStr
import PyProof.StrCalls3
import PyProof.Rows.TupDisplay
import PyProof.ZipIter
import PyProof.Draws
import PyProof.EnumMake
import PySem.Challenge.RW_copymeet_k61_upon_nothing
set_option compiler.extract_closed false
open PySem renaming wpAny_bind->yx,wpAny_pure->yz,sizeLine->zf,starEach->zw,FuncData->z6,compareOp->VX,wpAny_newObj_type->We,Spec->Wl,sizeLine_eq->Wm,wpAny_call_entry->Ws,mainGlobals->WD,wpAny_callSpecial?_slot->WE,cellsFrom->WH,wpAny_dictEntries->WJ,sysModules->WL,binaryOp->WU,wpAny_holding->WV,wpAny_Call_Name_kw->W4,wpAny_mono->Xg,wpAny_dictEpoch->Xl,wpAny_typeNameOfWhole_itemiter->Xn,wpAny_typeNameOfWhole_valiter->Xo,wpAny_typeNameOfWhole_keyiter->Xp,foldedSetIterable->Xs,assignEach->XB,bootBuiltins->XD,attributeBase->XF,tupleKind_room_in1->XG,call_meetsIn->XH,wpAny_notOrdered_dict->XM,wpAny_typeNameOf_itemiter->XS,wpAny_passesOwn->XU,wpAny_truthy_bool->XW,wpAny_typeNameOf_valiter->X1,wpAny_typeNameOf_keyiter->X3,mem_of_lookup->X7,wpAny_setField->Yd,NameKind->Yg,DictEntry->Yk,wpAny_attempt->Yu,dictSetDefault->YB,wpAny_fieldsOf->YC,firstArgMember->YD,wpAny_field->YI,wpAny_rule->YN
open List renaming getElem?_eq_some_iff->yy,mem_cons_self->y8,mem_cons_of_mem->y9,length_map->za,size_toArray->zb,prefix_rfl->zc,mem_append_right->ze,map_cons->zg,all_eq_true->zk,mem_map->zm,mem_cons->zq,getElem?_map->zt,lookup_cons->zx,range->z0,mem_singleton->z7,getElem?_eq_getElem->z9,pairwise_cons->VY,mem_append->Wc,getElem?_set_ne->Wd,length_cons->Wi,getElem?_append_left->Wj,mem_of_getElem?->Wn,map_map->Wp,prefix_append->Wx,cons_lt_cons_iff->Wy,getElem?_set_self->Wz,map_append->WB,getD_eq_getElem?_getD->WC,take_add_one->WQ,mem_append_left->WR,map_congr_left->WW,length_append->W5,length_set->W6,getElem?_cons_succ->W7,length_take->Xb,getElem_mem->Xd,getElem?_append_right->Xe,pairwise_map->Xi,append_nil->Xk,all_cons->Xq,ext_getElem?->Xt,length_range->Xv,nodup_cons->Xy,find?_cons->Xz,replicate->XO,pairwise_iff_getElem->XR,mem_filter->XT,nodup_append->X0,toArray->X4,filterMap_cons->X6,not_lt->X8,pairwise_singleton->X9,take_length->Ya,filter_cons->Yb,range_succ_eq_map->Yf,any_cons->Ys,append_assoc->Yt,cons_append->YE,length->YH,length_reverse->YJ,lookup->YV
open PySem.W renaming Frag->y0,findIn->zy,kia_one->WG,keepIn->WO,emptyDict->WY,fnOf->Xc,instObj->Xx,plainGet->XC,hasDictIn->XX,makesIn->Yi,plainOver->Yr,codeIn->Yz,nsIn->YM,mg_of->YT
open PySem.Heap renaming get?_push_of_some->y6,get?_push_size->zh,lt_size->zi,SameBut->WX,get?_update_self->W1,get?_push_ne->Xu,size_push->Yy,size_update->YF
open Nat renaming le_refl->zd,lt_of_lt_of_le->zr,zero_le->z8,ne_of_lt->Io,le_trans->Wu,lt_irrefl->WT,lt_or_eq_of_le->W9,le_of_lt->XE,le_succ_of_le->XZ,ne_of_gt->YK
open Bool renaming false_ne_true->zj,and_eq_true->zp,false_eq_true->Ww,eq_iff_iff->X2,beq_eq_decide_eq->Yq
open Option.some renaming inj->zl
open PySem.Value renaming none->zo,ref->Wh
open PySem.F renaming plainAttrs_list->VZ,slot_list_append->Wq,type_list_append->Wr,slot_dict_itemiterator_next->WI,slot_dict_get->WN,slot_dict_valueiterator_next->WS,slot_dict_keyiterator_next->W3,plainAttrs_dict->Xa,entry_dict_get->Xf,slot_dict_setdefault->Yh
open PySem.Heap.SameBut renaming update->Wa
open Option renaming map_eq_some_iff->Wb,isSome_iff_exists->W0,isSome_some->YR,map_some->YU
open PySem.Obj renaming mapSeq->Wg,mapFields->Xr,data_mapFields->XN,isFreed_of_fields->Yp,data_mapDictKeys->Yx
open PySem.Builtin.Dict_items renaming ownsTuple->Wo
open PySem.Paired renaming length->Wt
open PySem.NameKind renaming free->Wv,cell->YS
open PyProof.Rows renaming slot_tuple_getitem->WA,listUpdate_at->XJ,callWith_type1->Yj,mirror_perm->Yn,get?_update_seq->Yo
open PySem.Builtin.Tuple renaming tupleHashOf->WK,tupleExact->XY,tupleItemsOf->Yv
open PySem.Str renaming ofString->WM,length->Yc
open True renaming intro->WZ
open PySem.Txt renaming slice->W2
open Classical renaming propDecidable->W8
open False renaming elim->Xh
open Array renaming getElem?_eq_getElem->Xj,getElem?_eq_none->XA,length_toList->YG
open PySem.Builtin.Dict renaming showsAll->Xm
open Int renaming toNat_natCast->Xw
open PySem.Builtin.Slice renaming slicePlaces->XQ,sliceAdjust->YA
open List.Nodup renaming length_le_of_subset->X5
open PySem.Calls renaming callWith_builtin->Ye
open PySem.Builtin.Str renaming strSliceIndices->Yl,glued->YX
open Array.Perm renaming refl->Ym
open Ne renaming symm->Yw
open PySem.Builtin.List renaming listTooLong->YL
open List.Perm renaming eq_of_pairwise->YO
open Sum renaming inr->YQ
open Function renaming comp_def->YW
open PySem PySem.Spec PyProof.Rows
open Option renaming some->a_,none->b_
open PySem renaming Value->qe,Shared->q_,Addr->r_,Around->td,Heap->t_,World->u_,Program->ve,Expr->v_,Stmt->w_
local macro_rules|`(qb_ 0)=>`(⟨_,by k_is,by k_is,_,_,_,_,_,_,_,_,_,by k_is,by k_is,by k_is⟩)
local macro_rules|`(qc_ 0)=>`(⟨_,by k_is,_,_,_,_,_,_,_,_,_,by k_is,by k_is,by k_is⟩)
local macro_rules|`(tactic|omega)=>`(tactic|lia)
local macro_rules|`(i_ 0)=>`(⟨rfl,rfl,rfl,by decide +kernel,rfl,by decide +kernel,by decide +kernel⟩)
local macro_rules|`(c_ $x)=>`(some (.ref $x))
local macro_rules|`(d_ $x)=>`(some (.int $x))
local macro_rules|`(g_ $x)=>`(PySem.model ($x).prog ($x).w)
local macro_rules|`(e_ $x)=>`(($x).heap.objs.size)
local macro_rules|`(f_ 0)=>`(PySem.Value->PySem.Shared->Prop)
local macro_rules|`(gV 0)=>`(List (PySem.Addr×PySem.Obj))
local macro_rules|`(jn $x)=>`($x->PySem.Shared->Prop)
local macro_rules|`(k_ $p $w $x*)=>`(PySem.wpAny (PySem.model $p $w) $x*)
local macro_rules|`(ke $x)=>`(by simpa using $x)
local macro_rules|`(⋯)=>`(by omega)
local macro_rules|`(nofun)=>`(by decide)
local macro_rules|`(l_ 0)=>`(Array (Option PySem.Value))
local macro_rules|`(m_ 0)=>`(PySem.Str->Option PySem.Value)
open Lean Parser Tactic in
def n_:Nat->Syntax->MacroM (TSyntax `rcasesPat)
|n+1,s=>match s with
 |`($x:ident)=>`(rcasesPat|$x:ident)
 |`(⟨$xs,*⟩)=>do
  let ys<-xs.getElems.mapM λx=>do`(rcasesPatLo|$(<-n_ n x):rcasesPat)
  `(rcasesPat|⟨$ys,*⟩)
 |_=>`(rcasesPat|_)
|_,_=>Macro.throwUnsupported
open Lean Parser Tactic in
local macro_rules|`(tactic|let $p:term:=$e)=>do let q<-`(rcasesPatMed|$(<-n_ 9 p):rcasesPat);`(tactic|obtain $q:rcasesPatMed:=$e)
local macro_rules|`(x_ $x)=>`(List $x)
local macro_rules|`(y_ $x)=>`(Option $x)
set_option bootstrap.genMatcherCode false
set_option Elab.async false
set_option linter.all false
set_option maxRecDepth 1000000
set_option maxHeartbeats 4000000
noncomputable section
local macro_rules|`(tactic|let $x:ident:=$e)=>`(tactic|have $x:ident:=$e)
local macro_rules|`(tactic|let $x:ident : $t :=$e)=>`(tactic|have $x:ident : $t :=$e)
local macro_rules|`(tactic|show $e)=>`(tactic|exact $e)
set_option hygiene false
local macro_rules|`(h_ $x*)=>`(Inv X FR σ $x*)
local macro_rules|`(j_ $x*)=>`(aT P w K mg base CX0 $x*)
local macro_rules|`(p_ $x*)=>`(RV C φ H $x*)
local macro_rules|`(s_ 0)=>`(cC w K cl)
local macro_rules|`(z_ $x*)=>`(Ext.app _ $x*)
local macro_rules|`(A_ $x*)=>`(RVs C φ H $x*)
local macro_rules|`(B_ $x*)=>`(k_ prog w A $x*)
local macro_rules|`(C_ $x*)=>`(SE C k X $x*)
local macro_rules|`(D_ 0)=>`(clF aI aK aD)
local macro_rules|`(E_ $x*)=>`(RH C φ H $x*)
local macro_rules|`(F_ $x*)=>`(aG vAt $x*)
local macro_rules|`(G_ $x*)=>`(evT lt $x*)
local macro_rules|`(H_ $x*)=>`(aT X.prog X.w X.K X.mg X.base $x*)
local macro_rules|`(I_ $x*)=>`(wpAny _ _ $x*)
local macro_rules|`(J_ $x*)=>`(tMt P w K mg base cl $x*)
local macro_rules|`(K_ $x*)=>`(FQ h l lt lm lf ll ts $x*)
local macro_rules|`(L_ $x*)=>`(tMt l.prog w K mg base $x*)
local macro_rules|`(M_ $x*)=>`(aT X.prog X.w C.K X.mg X.base CX0 j $x*)
local macro_rules|`(N_ $x*)=>`(h_ H $x*)
local macro_rules|`(O_ $x*)=>`(post C φ H $x*)
local macro_rules|`(P1 $x*)=>`(po.val rh $x*)
local macro_rules|`(P2 $x*)=>`(Ext h $x*)
local macro_rules|`(P_ $x*)=>`(X.comp sc N $x*)
local macro_rules|`(Q_ 0)=>`(D.depths ds)
local macro_rules|`(R_ $x*)=>`(upd H $x*)
local macro_rules|`(S1 $x*)=>`(kK X.env.cells sc.names $x*)
local macro_rules|`(S_ 0)=>`(re.mono p1 t1)
local macro_rules|`(T_ 0)=>`(X.env.cells.lookup x)
local macro_rules|`(U_ 0)=>`(zw es X.env)
local macro_rules|`(V_ $x*)=>`(s.heap.update a $x*)
local macro_rules|`(W_ $x*)=>`(HT.sIx xs.length $x*)
local macro_rules|`(X_ 0)=>`(eval e X.env)
local macro_rules|`(YY $x*)=>`(sIx items.size $x*)
local macro_rules|`(YZ 0)=>`(X.env.scope.names.lookup x)
local macro_rules|`(Y0 $x*)=>`(rh.at' n a _ ha $x*)
local macro_rules|`(Y1 0)=>`(s.heap.get? b)
local macro_rules|`(Y2 $x*)=>`(EP X FR σ $x*)
local macro_rules|`(Y3 $x*)=>`(OpS C k X $x*)
local macro_rules|`(Y4 $x*)=>`(Cxt C k $x*)
local macro_rules|`(Y5 $x*)=>`(OpR X $x*)
local macro_rules|`(Y6 0)=>`(Array qe)
local macro_rules|`(Y7 0)=>`(RE C φ H δ σ)
local macro_rules|`(Y8 $x*)=>`(katRev b $x*)
local macro_rules|`(Y9 0)=>`(x_ PV)
local macro_rules|`(Y_ $x*)=>`(pa' p $x*)
local macro_rules|`(Za 0)=>`(pv t.nm)
local macro_rules|`(Zb 0)=>`(ns.map PV.int)
local macro_rules|`(Zc 0)=>`(if_pos rfl)
local macro_rules|`(Zd $x*)=>`(h FR s σ H $x*)
local macro_rules|`(Ze $x*)=>`(backTo pos $x*)
local macro_rules|`(Zf 0)=>`(AtT hd ts)
local macro_rules|`(Zg 0)=>`(x_ Key)
local macro_rules|`(Zh $x*)=>`(RH C φ' H' $x*)
local macro_rules|`(Zi 0)=>`(RH C φ1 H1 h1)
local macro_rules|`(Zj $x*)=>`(cW X.prog X.w $x*)
local macro_rules|`(Zk $x*)=>`(aP kvs $x*)
local macro_rules|`(Zl 0)=>`(Array Nat)
local macro_rules|`(Zm 0)=>`(sc.names.lookup x)
local macro_rules|`(Zn $x*)=>`(Fun K $x*)
local macro_rules|`(Zo $x*)=>`(Hr CX P w K mg base N qual scope f $x*)
local macro_rules|`(Zp $x*)=>`(j_ 1 f fd $x*)
local macro_rules|`(Zq 0)=>`(s.heap.get? dc)
local macro_rules|`(Zr $x*)=>`(RelV x $x*)
local macro_rules|`(Zs 0)=>`(if_neg e)
local macro_rules|`(Zt $x*)=>`(Def K mg $x*)
local macro_rules|`(Zu $x*)=>`(Kp H $x*)
local macro_rules|`(Zv $x*)=>`(kas_asc p $x*)
local macro_rules|`(Zw 0)=>`(x_ Str)
local macro_rules|`(Zx $x*)=>`(PE X $x*)
local macro_rules|`(Zy 0)=>`(I.tok _)
local macro_rules|`(Zz 0)=>`(y_ Int)
local macro_rules|`(ZA $x*)=>`(Binds X.K fd ps $x*)
local macro_rules|`(ZC 0)=>`(vs.getD i zo)
local macro_rules|`(ZD $x*)=>`(SqT K H $x*)
local macro_rules|`(ZE 0)=>`(x_ qe)
local macro_rules|`(ZF $x*)=>`(RelV v $x*)
local macro_rules|`(ZG $x*)=>`(RKv C φ H $x*)
local macro_rules|`(ZH 0)=>`(Rs Bool)
local macro_rules|`(ZI $x*)=>`(SqL K H $x*)
local macro_rules|`(ZJ $x*)=>`(kas_place p k $x*)
local macro_rules|`(ZK $x*)=>`(h.set n $x*)
local macro_rules|`(ZL 0)=>`(zh _ rfl)
local macro_rules|`(ZM 0)=>`(eval o X.env)
local macro_rules|`(ZN $x*)=>`(atKey xs $x*)
local macro_rules|`(ZO 0)=>`(P_ C fp s₀ H₀)
local macro_rules|`(ZP $x*)=>`(eX b vs.length $x*)
local macro_rules|`(ZQ 0)=>`(A_ xs vs)
local macro_rules|`(ZR 0)=>`(zP I c.K c.w rh ha ht)
local macro_rules|`(ZS $x*)=>`(envOfC qual scope $x*)
local macro_rules|`(ZT $x*)=>`(SSt C k X $x*)
local macro_rules|`(ZU $x*)=>`(Inv X FR σ' H' $x*)
local macro_rules|`(ZV 0)=>`(pv root)
local macro_rules|`(ZW 0)=>`(h'.get? b)
local macro_rules|`(ZX $x*)=>`(aG bK $x*)
local macro_rules|`(ZY 0)=>`(ts.map dS)
local macro_rules|`(ZZ $x*)=>`(HOk P w H $x*)
local macro_rules|`(Z0 $x*)=>`(isD X.K H $x*)
local macro_rules|`(Z1 $x*)=>`(kas_rev p $x*)
local macro_rules|`(Z2 $x*)=>`(s.heap.update it $x*)
local macro_rules|`(Z3 $x*)=>`(HR s.heap $x*)
local macro_rules|`(Z4 $x*)=>`(RelV y $x*)
local macro_rules|`(Z5 $x*)=>`(RKd C φ H $x*)
local macro_rules|`(Z6 $x*)=>`(Cz VZ Wq Wr hZ $x*)
local macro_rules|`(Z7 0)=>`(x1.trans x2)
local macro_rules|`(Z8 0)=>`(c_ h.length)
local macro_rules|`(Z9 0)=>`(ha pos FR s σ H _ I h)
local macro_rules|`(Z_ 0)=>`(ns.map V.int)
local macro_rules|`(q0a 0)=>`(kas_descPart n nrem p)
local macro_rules|`(q0b 0)=>`(YY items.size hi)
local macro_rules|`(tactic|rfl')=>`(tactic|refine now ?_)
local macro_rules|`(def $i:declId $s:optDeclSig $v:declVal)=>`(noncomputable def $i:declId $s:optDeclSig $v:declVal)
namespace L2
abbrev Key:=Sum Int Str
def zA:Key->qe->Bool
 |.inl k,v=>Value.isInt k v
 |.inr x,v=>Value.isStrOf x v
def QO(w:u_):Key->Int
 |.inl k=>hashInt k
 |.inr x=>hashStr w x
theorem cF:∀{k:Key}{v:qe},zA k v=true->(∃i t,k=Sum.inl i/\v=Value.int i t)\/(∃x t,k=YQ x/\v=Value.str x t)
 |.inl i,v,h=>by let⟨t,e⟩:=Value.isInt_shape (k:=i) (v:=v) h;show .inl ⟨i,t,rfl,e⟩
 |.inr x,v,h=>by let⟨t,e⟩:=Value.isStrOf_shape (x:=x) (v:=v) h;show .inr ⟨x,t,rfl,e⟩
theorem JT(i:Int)(t:Tok):zA (.inl i) (.int i t)=true:=by simp[zA,Value.isInt]
theorem JU(x:Str)(t:Tok):zA (.inr x) (.str x t)=true:=by simp[zA,Value.isStrOf]
theorem QP(a b:Int):decide ((Sum.inl a:Key)=Sum.inl b)=(a == b):=by
 by_cases e:a=b
 ·subst e;simp
 ·let h:¬ (Sum.inl a:Key)=Sum.inl b:=λq=>e (Sum.inl.inj q);rw[decide_eq_false h];show(beq_eq_false_iff_ne.mpr e).symm
theorem QQ(a b:Str):decide ((YQ a:Key)=YQ b)=decide (a=b):=by
 by_cases e:a=b
 ·subst e;simp
 ·let h:¬ (YQ a:Key)=YQ b:=λq=>e (Sum.inr.inj q);rw[decide_eq_false h,decide_eq_false e]
theorem QR(a:Int)(b:Str):decide ((Sum.inl a:Key)=YQ b)=false:=decide_eq_false (λq=>nomatch q)
theorem QS(a:Str)(b:Int):decide ((YQ a:Key)=Sum.inl b)=false:=decide_eq_false (λq=>nomatch q)
def cJ(prog:ve)(w:u_):PySem.KeyKind prog w Key where
 is:=zA
 hash:=QO w
 inj:=λv a b ha hb=>by
  rcases cF ha with⟨i,t,rfl,rfl⟩|⟨x,t,rfl,rfl⟩
  ·rcases cF hb with⟨j,u,rfl,e⟩|⟨y,u,rfl,e⟩
   ·injection e with e1 _;rw[e1]
   ·show nomatch e
  ·rcases cF hb with⟨j,u,rfl,e⟩|⟨y,u,rfl,e⟩
   ·show nomatch e
   ·injection e with e1 _;rw[e1]
 byValue:=λk v h=>by rcases cF h with⟨i,t,rfl,rfl⟩|⟨x,t,rfl,rfl⟩ <;> rfl
 pyHash:=λhv h=>by
  rcases cF hv with⟨i,t,rfl,rfl⟩|⟨x,t,rfl,rfl⟩
  ·show wpAny_pyHash_int h
  ·show wpAny_pyHash_str h
 eqBool:=λhu hv h=>by
  rcases cF hu with⟨i,t,rfl,rfl⟩|⟨x,t,rfl,rfl⟩
  ·rcases cF hv with⟨j,u,rfl,rfl⟩|⟨y,u,rfl,rfl⟩
   ·rw[QP]at h;show wpAny_eqBool_int h
   ·rw[QR]at h;show SeqAt.EqAt.int_str i t y u _ _ _ _ h
  ·rcases cF hv with⟨j,u,rfl,rfl⟩|⟨y,u,rfl,rfl⟩
   ·rw[QS]at h;show SeqAt.EqAt.str_int x t j u _ _ _ _ h
   ·rw[QQ]at h;show wpAny_eqBool_str h
 «strs»:=λk x t v h=>by
  rcases cF h with⟨i,u,rfl,e⟩|⟨y,u,rfl,e⟩
  ·show nomatch e
  ·injection e with e1 _;subst e1;cases v <;> rfl
theorem Ff(prog:ve)(w:u_)(i:Int)(t:Tok):(cJ prog w).is (.inl i) (.int i t)=true:=JT i t
theorem Fg(prog:ve)(w:u_)(x:Str)(t:Tok):(cJ prog w).is (.inr x) (.str x t)=true:=JU x t
inductive V where
 |non|bl (b:Bool)|int (i:Int)|str (x:Str)|byt (b:Array UInt8)|flt (b:UInt64)|ref (a:Addr)|ty (n:String)
 deriving DecidableEq
def RelV:V->qe->Prop
 |.non,u=>u=zo
 |.bl b,u=>u=Value.bool b
 |.int i,u=>∃t,u=Value.int i t
 |.str x,u=>∃t,u=Value.str x t
 |.byt b,u=>∃t,u=Value.bytes b t
 |.flt b,u=>∃t,u=Value.float b t
 |.ref a,u=>u=Wh a
 |.ty n,u=>u=Value.type n
abbrev aS:x_ V->ZE 0->Prop:=Paired RelV
variable{us:ZE 0}
theorem aS.length{xs:x_ V}(r:aS xs us):xs.length=us.length:=Wt r
theorem aS.get:∀{xs:x_ V}{us:ZE 0}{i:Nat}{x:V},aS xs us->xs[i]?=a_ x->∃u,us[i]?=a_ u/\Zr u
 |_,_,_,_,.nil,e=>by simp at e
 |_,_,0,_,.cons r _,e=>by simp at e;subst e;show⟨_,rfl,r⟩
 |_,_,i+1,x,.cons _ t,e=>by
  let⟨u,h1,h2⟩:=aS.get (i:=i) (x:=x) t (ke e);show⟨u,ke h1,h2⟩
variable{u:qe}
theorem aS.set{x:V}(r:Zr u):∀{xs:x_ V}{us:ZE 0}(i:Nat),aS xs us->aS (xs.set i x) (us.set i u)
 |_,_,_,.nil=>.nil
 |_,_,0,.cons _ t=>.cons r t
 |_,_,i+1,.cons q t=>.cons q (aS.set r i t)
theorem aS.append:∀{xs ys:x_ V}{us ws:ZE 0},aS xs us->aS ys ws->aS (xs++ys) (us++ws)
 |_,_,_,_,.nil,s=>s
 |_,_,_,_,.cons r t,s=>.cons r (aS.append t s)
theorem aS.take:∀{xs:x_ V}{us:ZE 0}(n:Nat),aS xs us->aS (xs.take n) (us.take n)
 |_,_,0,_=>.nil
 |_,_,_+1,.nil=>.nil
 |_,_,n+1,.cons r t=>.cons r (aS.take n t)
theorem aS.drop:∀{xs:x_ V}{us:ZE 0}(n:Nat),aS xs us->aS (xs.drop n) (us.drop n)
 |_,_,0,r=>r
 |_,_,_+1,.nil=>.nil
 |_,_,n+1,.cons _ t=>aS.drop n t
def pL:y_ V->y_ qe->Prop
 |some v,a_ u=>ZF u
 |none,b_=>True
 |_,_=>False
def KV{κ:Type}:x_ (κ×V)->x_ (κ×qe)->Prop:=Paired λ(p:κ×V)(q:κ×qe)=>p.1=q.1/\RelV p.2 q.2
def kV:Key->V
 |.inl i=>.int i
 |.inr x=>.str x
inductive HO where
 /-- a list -/
 |lst (xs:x_ V)
 /-- a tuple (never changes) -/
 |tup (xs:x_ V)
 /-- a dict whose keys are ints and texts;one whose keys are tuples of ints and texts (the empty one is both) -/
 |dK (kvs:x_ (Key×V))|dT (kvs:x_ (x_ Key×V))
 /-- a set of ints: its members,its size -/
 |set (S:Int->Bool) (n:Nat)
 /-- an instance of the class at C,its dict at dx,its attributes -/
 |ins (C dx:Addr) (fs:x_ (Str×V))
 /-- the dict of the instance at x -/
 |own (x:Addr)
 /-- the dict of an exception -/
 |xd (fs:x_ (Str×V))
 /-- a bound method,f of x -/
 |met (f x:Addr)
 /-- a range object lo,lo+1,.. below hi -/
 |rng (lo hi:Int)
 /-- a thing that is known to the object (the script;a dict while a loop walks it): read,never written while it is so -/
 |frz (o:Obj) (u:HO)
 /-- a code object's table -/
 |tbl (ps:Array Value)
 /-- any other thing,by what is true of its one object (a def of one's own: SetO a S n:=HO.ext λh=>..) -/
 |ext (φ:Heap->Prop)
abbrev Hp:=r_->y_ HO
def upd(H:Hp)(a:r_)(o:HO):Hp:=λb=>if b=a then a_ o else H b
variable{H:Hp}{a:r_}
theorem aX{o:HO}:R_ a o a=a_ o:=by unfold upd;rw[Zc 0]
theorem aQ{b:r_}{o:HO}(h:b≠a):R_ a o b=H b:=by unfold upd;rw[if_neg h]
theorem T'{b:r_}{o u:HO}(h:H a=a_ o)(h':H b=a_ u)(d:o≠u):a≠b:=by intro e;subst e;rw[h]at h';show d (zl h')
theorem fG{b:r_}{o:HO}(h:H a=a_ o)(h':H b=b_):a≠b:=by intro e;subst e;rw[h]at h';cases h'
def wR(h:t_)(a:r_)(items:Y6 0):Prop:=∃o,h.get? a=a_ o/\o.cls=.type "tuple" /\ (∃n,o.data=.seq items n)/\o.dict=b_
variable{items:Y6 0}
theorem wR.is{h:t_}(x:wR h a items):PyProof.Rows.IsTup h a items:=let ⟨o,h1,h2,h3,_⟩:=x;⟨o,h1,h2,h3⟩
theorem wR.lt{h:t_}(x:wR h a items):a<h.objs.size:=let ⟨_,h1,_⟩:=x;zi h1
theorem wR.new(h:t_)(items:Y6 0):wR (h.push {cls:=.type "tuple",data:=.seq items 0}) h.objs.size items:=⟨_,ZL 0,rfl,⟨_,rfl⟩,rfl⟩
section
variable(P:ve)(w:u_)
def cW(H:Hp)(h:t_)(a:r_):HO->Prop
 |.lst xs=>xs.length<=zf/\∃(its:ZE 0)(n:Nat),aS xs its/\h.get? a=a_ {cls:=.type "list",data:=.seq its.toArray n}
 |.tup xs=>xs.length<=zf/\∃its:ZE 0,aS xs its/\wR h a its.toArray
 |.dK kvs=>kvs.length<=zf/\(a == WL)=false/\∃vs,KV kvs vs/\h.DictOf (cJ P w) a vs
 | .dT kvs=>kvs.length<=zf/\(a == WL)=false/\∃ xs:x_ (Zg 0×r_×qe),
   Paired (λ(p:Zg 0×V)(q:Zg 0×r_×qe)=>p.1=q.1/\H q.2.1=a_ (.tup (p.1.map kV))/\RelV p.2 q.2.2) kvs xs/\
   ∃o es ep,h.get? a=a_ o/\o.ExactDict/\o.data=.dict es ep/\es.toList=xs.map (entryOfKey (tupleKind (cJ P w)))/\(xs.map (·.1)).Nodup
 |.set S n=>h.SetOf (intKind P w) a S n
 | .ins C dx fs=>H dx=a_ (.own a)/\fs.length<=1000/\dx≠a/\h.get? a=a_ (Xx C dx)/\
   ∃mA,h.Ns1 dx mA/\(∀f,pL (fs.lookup f) (mA f))/\PySem.Within mA (fs.map (·.1))
 |.own _=>∃o,h.get? a=a_ o
 |.xd fs=>∃mA,h.Ns1 a mA/\∀f,pL (fs.lookup f) (mA f)
 |.rng lo hi=>∃t u v,h.get? a=a_ {cls:=.type "range",data:=.fields #[.int lo t,.int hi u,.int 1 v]}
 |.frz o u=>h.get? a=a_ o/\cW H h a u
 |.tbl ps=>h.get? a=a_ {cls:=.none,data:=.fields ps}
 |.met f x=>h.get? a=a_ (PySem.W.methodObj (.ref f) (.ref x))
 |.ext φ=>φ h/\(∃o,h.get? a=a_ o)/\∀h1 h2:t_,φ h1->(∀o,h1.get? a=a_ o->h2.get? a=a_ o)->φ h2
def HOk(H:Hp)(h:t_):Prop:=∀a o,H a=a_ o->cW P w H h a o
end
variable{P:ve}{w:u_}
theorem cW.lt{h:t_}{o:HO}(x:cW P w H h a o):a<h.objs.size:=by
 cases o with
 |lst xs=>let⟨_,_,_,_,e⟩:=x;show zi e
 |tup xs=>let⟨_,_,_,p⟩:=x;show wR.lt p
 |dK kvs=>let⟨_,_,_,_,o,_,_,e,_⟩:=x;show zi e
 |dT kvs=>let⟨_,_,_,_,o,_,_,e,_⟩:=x;show zi e
 |set S n=>let⟨o,_,_,_,e,_⟩:=x;show zi e
 |ins C dx fs=>let⟨_,_,_,e,_⟩:=x;show zi e
 |own y=>let⟨_,e⟩:=x;show zi e
 |xd fs=>let⟨_,⟨_,_,_,e,_⟩,_⟩:=x;show zi e
 |rng lo hi=>let⟨_,_,_,e⟩:=x;show zi e
 |frz ob u=>let⟨e,_⟩:=x;show zi e
 |tbl ps=>exact zi (show h.get? a=a_ _ from x)
 |met f y=>exact zi (show h.get? a=a_ _ from x)
 |ext φ=>let⟨_,⟨_,e⟩,_⟩:=x;show zi e
theorem Paired.mapP{α β:Type}{F G:α->β->Prop}:∀{l₁:x_ α}{l₂:x_ β},Paired F l₁ l₂->(∀a b,F a b->G a b)->Paired G l₁ l₂
 |_,_,.nil,_=>.nil
 |_,_,.cons r t,f=>.cons (f _ _ r) (Paired.mapP t f)
variable{H':Hp}{h':t_}
theorem cW.stay{h:t_}{o:HO}(x:cW P w H h a o)(k:∀b u,(b=a\/H b=a_ (.own a))->h.get? b=a_ u->ZW 0=a_ u)(ho:∀b,H b=a_ (.own a)->H' b=a_ (.own a))(ht:∀b xs,H b=a_ (.tup xs)->H' b=a_ (.tup xs)):cW P w H' h' a o:=by
 induction o with
 |lst xs=>let⟨z,its,n,r,e⟩:=x;show⟨z,its,n,r,k _ _ (.inl rfl) e⟩
 |tup xs=>let⟨z,its,r,ob,e,c⟩:=x;show⟨z,its,r,ob,k _ _ (.inl rfl) e,c⟩
 |dK kvs=>let⟨z,y,vs,r,ob,es,ep,e,c⟩:=x;show⟨z,y,vs,r,ob,es,ep,k _ _ (.inl rfl) e,c⟩
 |dT kvs=>let⟨z,y,xs,r,ob,es,ep,e,c⟩:=x;show⟨z,y,xs,Paired.mapP r λp q z=>⟨z.1,ht _ _ z.2.1,z.2.2⟩,ob,es,ep,k _ _ (.inl rfl) e,c⟩
 |set S n=>let⟨ob,es,ep,t,e,c⟩:=x;show⟨ob,es,ep,t,k _ _ (.inl rfl) e,c⟩
 |ins C dx fs=>let⟨d,z,ne,e,mA,⟨od,es,ep,e2,c⟩,r⟩:=x;show⟨ho _ d,z,ne,k _ _ (.inl rfl) e,mA,⟨od,es,ep,k _ _ (.inr d) e2,c⟩,r⟩
 |own y=>let⟨ob,e⟩:=x;show⟨ob,k _ _ (.inl rfl) e⟩
 |xd fs=>let⟨mA,⟨od,es,ep,e,c⟩,r⟩:=x;show⟨mA,⟨od,es,ep,k _ _ (.inl rfl) e,c⟩,r⟩
 |rng lo hi=>let⟨t,u,v,e⟩:=x;show⟨t,u,v,k _ _ (.inl rfl) e⟩
 |frz ob u ih=>let⟨e,q⟩:=x;show⟨k _ _ (.inl rfl) e,ih q⟩
 |tbl ps=>
  let e:h.get? a=a_ {cls:=.none,data:=.fields ps}:=x
  change h'.get? a=a_ {cls:=.none,data:=.fields ps}
  show k a _ (.inl rfl) e
 |met f y=>
  let e:h.get? a=a_ (PySem.W.methodObj (.ref f) (.ref y)):=x
  change h'.get? a=a_ (PySem.W.methodObj (.ref f) (.ref y))
  show k a _ (.inl rfl) e
 |ext φ=>let⟨p,⟨o,e⟩,st⟩:=x;show⟨st _ _ p λo q=>k _ _ (.inl rfl) q,⟨o,k _ _ (.inl rfl) e⟩,st⟩
theorem HOk.lt{h:t_}{o:HO}(x:ZZ h)(e:H a=a_ o):a<h.objs.size:=(x a o e).lt
theorem HOk.fresh{h:t_}(x:ZZ h)(e:h.objs.size<=a):H a=b_:=by
 cases q:H a with
 |none=>rfl
 |some u=>exact absurd (zr (x.lt q) e) (WT _)
theorem HOk.kept{h:t_}(x:ZZ h)(k:∀b u,h.get? b=a_ u->ZW 0=a_ u):ZZ h':=λa o e=>(x a o e).stay (λb u _ q=>k b u q) (λ_ q=>q) λ_ _ q=>q
theorem HOk.laid{h:t_}{o:HO}(x:ZZ h)(k:∀b u,h.get? b=a_ u->ZW 0=a_ u)(hp:h.objs.size<=a)(new:cW P w (R_ a o) h' a o):HOk P w (R_ a o) h':=λb u e=>by
 let hn:=x.fresh hp;by_cases hb:b=a
 ·subst hb;rw[aX]at e;cases e;show new
 ·rw[aQ hb]at e;show(x b u e).stay (λc v _ q=>k c v q) (λc q=>by rw[aQ (fG q hn)];show q) λc xs q=>by rw[aQ (fG q hn)];show q
def Rd(H:Hp)(a:r_)(u:HO):Prop:=H a=a_ u\/∃o,H a=a_ (.frz o u)
theorem Rd.ok{h:t_}{u:HO}(r:Rd H a u)(x:ZZ h):cW P w H h a u:=by
 rcases r with r|⟨o,r⟩
 ·show x a u r
 ·let⟨_,q⟩:=x a _ r;show q
def Mut:y_ HO->Prop
 |some (.lst _)=>True
 |some (.dK _)=>True
 |some (.dT _)=>True
 |some (.set _ _)=>True
 |some (.ins _ _ _)=>True
 |some (.ext _)=>True
 |_=>False
section
variable{h:t_}{x e:r_}{o':HO}
theorem HOk.write(ok:ZZ h)(mu:Mut (H x))(he:e=x\/H e=a_ (.own x))(k:∀b u,b≠e->h.get? b=a_ u->ZW 0=a_ u)(jy:∃u,h'.get? e=a_ u)
  (new:cW P w (R_ x o') h' x o'):HOk P w (R_ x o') h':=λb u q=>by
 let ly:∀c y,H c=a_ (.own y)->c≠x:=λc y r z=>by subst z;rw[r]at mu;show mu
 let p9:∀c xs,H c=a_ (.tup xs)->c≠x:=λc xs r z=>by subst z;rw[r]at mu;show mu
 by_cases hb:b=x
 ·subst hb;rw[aX]at q;cases q;show new
 ·rw[aQ hb]at q;by_cases hbe:b=e
  ·let q':H b=a_ (.own x):=by
    rcases he with z|z
    ·show absurd (hbe.trans z) hb
    ·rw[hbe];show z
   rw[q]at q';cases q';let⟨v,hv⟩:=jy;show⟨v,by rw[hbe];show hv⟩
  ·refine(ok b u q).stay (λc v hc r=>k c v ?_ r) (λc r=>by rw[aQ (ly c b r)];show r) λc xs r=>by rw[aQ (p9 c xs r)];show r
   rcases hc with rfl|hc
   ·show hbe
   ·rintro rfl;rcases he with z|z
    ·show ly c b hc z
    ·rw[hc]at z;cases z;show hb rfl
end
structure Un(fs ex:x_ r_)(H H':Hp)(h h':t_):Prop where
 keep:∀b o,h.get? b=some o->H b=none->b∉fs->b∉ex->h'.get? b=some o
 slot:∀b o,h.get? b=some o->H b=none->b∈fs->b∉ex->∃sl,h'.get? b=some { o with slots:=sl}
 free:∀b o,h.get? b=some o->H b=none->b∉ex->H' b=none
 there:∀b o,h.get? b=some o->b∉ex->∃o',h'.get? b=some o'
 tups:∀b xs,H b=some (.tup xs)->H' b=some (.tup xs)
 frzs:∀b o u,H b=some (.frz o u)->H' b=some (.frz o u)
 tbls:∀b ps,H b=some (.tbl ps)->∃more,H' b=some (.tbl (ps++more))
variable{H1:Hp}{ex:x_ r_}{ob:Obj}
section
variable{fs si ex':x_ r_}{h h1 h2:t_}{x e:r_}{o:HO}
theorem Un.any(u:Un fs ex H H1 h h1){b:r_}(q:h.get? b=a_ ob)(n:H b=b_)(hx:b∉ex):∃sl,h1.get? b=a_ { ob with slots:=sl}:=by
 by_cases hb:b∈fs
 ·show u.slot b ob q n hb hx
 ·show⟨ob.slots,u.keep b ob q n hb hx⟩
theorem Un.kept(k:∀b u,h.get? b=a_ u->ZW 0=a_ u):Un fs ex H H h h':=⟨λb ob q _ _ _=>k b ob q,λb ob q _ _ _=>⟨ob.slots,k b ob q⟩,λ_ _ _ n _=>n,λb ob q _=>⟨ob,k b ob q⟩,λ_ _ q=>q,λ_ _ _ q=>q,λ_ ps q=>⟨#[],by rw[q];simp⟩⟩
theorem Un.refl:Un fs ex H H h h:=Un.kept λ_ _ q=>q
theorem Un.laid(k:∀b u,h.get? b=a_ u->ZW 0=a_ u)(hp:h.objs.size<=a)(hn:H a=b_):Un fs ex H (R_ a o) h h' where
 keep:=λb u q _ _ _=>k b u q
 slot:=λb u q _ _ _=>⟨u.slots,k b u q⟩
 free:=λb u q n _=>by rw[aQ (Io (zr (zi q) hp))];show n
 there:=λb u q _=>⟨u,k b u q⟩
 tups:=λb xs q=>by rw[aQ (fG q hn)];show q
 frzs:=λb u xs q=>by rw[aQ (fG q hn)];show q
 tbls:=λb ps q=>⟨#[],by rw[aQ (fG q hn),q];simp⟩
theorem Un.write(mu:Mut (H x))(he:e=x\/H e=a_ (.own x))(k:∀b u,b≠e->h.get? b=a_ u->ZW 0=a_ u)(jy:∃u,h'.get? e=a_ u):Un fs ex H (R_ x o) h h':=by
 let hx:∀b,H b=b_->b≠x:=λb n z=>by subst z;rw[n]at mu;show mu
 let hb:∀b,H b=b_->b≠e:=λb n z=>by
  subst z;rcases he with r|r
  ·show hx b n r
  ·rw[n]at r;cases r
 let hm:∀b u,H b=a_ u->¬ Mut (a_ u)->b≠x:=λb u q nm z=>by subst z;rw[q]at mu;show nm mu
 refine⟨λb u q n _ _=>k b u (hb b n) q,λb u q n _ _=>⟨u.slots,k b u (hb b n) q⟩,λb u q n _=>by rw[aQ (hx b n)];show n,λb u q _=>?_,
  λb xs q=>by rw[aQ (hm b _ q λz=>z)];show q,λb u xs q=>by rw[aQ (hm b _ q λz=>z)];show q,λb ps q=>⟨#[],by rw[aQ (hm b _ q λz=>z),q];simp⟩⟩
 by_cases hbe:b=e
 ·subst hbe;show jy
 ·show⟨u,k b u hbe q⟩
end
def trk(h:t_)(H:Hp):x_ r_:=(z0 h.objs.size).filter λa=>(H a).isSome
def DH(h:t_)(H:Hp):t_:=PySem.W.hideAll h (trk h H)
theorem JV(h:t_)(H:Hp):(DH h H).objs.size=h.objs.size:=PySem.W.hideAll_size _ _
theorem Lf{h:t_}{b:r_}{o:Obj}(e:h.get? b=a_ o)(n:H b=b_):(DH h H).get? b=a_ o:=PySem.W.hideAll_get _ e λhm=>by let q:(H b).isSome=true:=(XT.mp hm).2;rw[n]at q;simp at q
theorem O3{h:t_}{b:r_}{o:Obj}(e:(DH h H).get? b=a_ o):h.get? b=a_ o/\H b=b_:=by
 let e':h.get? b=a_ o:=PySem.W.of_hideAll (trk h H) e;refine⟨e',?_⟩;cases q:H b with
 |none=>rfl
 |some x=>have hm:b∈trk h H:=XT.mpr ⟨List.mem_range.mpr (zi e'),by simp[q]⟩;let z:(DH h H).get? b=b_:=PySem.W.hideAll_none (trk h H) hm;rw[z]at e;cases e
def O4(g h:t_)(L:r_):gV 0:=(z0 h.objs.size).filterMap λa=>if a=L\/(g.get? a).isSome=true then b_ else(h.get? a).map λo=>(a,o)
def rest(g h:t_)(L d:r_):gV 0:=(O4 g h L).filter λp=>decide (p.1≠d)
structure Mod(K:y0)(mg:m_ 0)(base:t_):Prop where
 kin:K.In base
 glob:base.Ns WD mg
 blt:∃mb,base.Ns builtinsNs mb/\∀x:Str,x≠"__name__" -> mb x=XD x
 nolimit:base.NoLimit
structure Cx where
 prog:ve
 w:u_
 K:y0
 mg:m_ 0
 base:t_
 A:td
 N:x_ Str
 s₀:q_
 H₀:Hp
 env:Env
 outer:x_ Env
 stack:x_ Env
 ex:x_ r_
 fn:Str->Bool
 calm:Bool
 pn:gV 0
 xe:f_ 0
def frs(l:x_ Env):x_ r_:=l.filterMap (·.frame)
abbrev Cx.fs(X:Cx):x_ r_:=frs X.outer
def Vis(sc:Scope)(x:Str):Prop:=Zm 0=a_ .local\/Zm 0=a_ .cell\/Zm 0=a_ .free
def Loc(sc:Scope)(x:Str):Prop:=Zm 0=a_ .local\/Zm 0=a_ .cell
def Look(env:Env)(h:t_)(m:m_ 0)(x:Str)(u:qe):Prop:=(env.kindOf x=a_ .local/\m x=a_ u)\/((env.kindOf x=a_ .cell\/env.kindOf x=a_ .free)/\∃c,env.cells.lookup x=a_ c/\h.IsCell c (a_ u))
structure Cx.Ok(X:Cx):Prop where
 mod:Mod X.K X.mg X.base
 kind:X.env.scope.kind=.function
 glob:X.env.globals=WD
 blt:X.env.builtins=builtinsNs
 above:X.s₀.heap.objs.size<=X.env.locals
 inj:∀x y c,X.env.cells.lookup x=some c->X.env.cells.lookup y=some c->x=y
 has:∀x,(X.env.kindOf x=some .cell\/X.env.kindOf x=some .free)->∃c,X.env.cells.lookup x=some c
 cab:∀x c,X.fn x=true->X.env.cells.lookup x=some c->X.s₀.heap.objs.size<=c
 hd:X.calm=true->X.A.handled=none
 frames:X.A.frames=some X.stack
 stk:X.stack=X.outer\/(X.stack=X.env::X.outer/\X.env.frame=some X.env.locals)
 exf:∀b∈X.ex,b≠X.env.locals/\∀x c,X.env.cells.lookup x=some c->c≠b
 bs:∀b o,X.base.get? b=some o->X.s₀.heap.get? b=some o/\X.H₀ b=none
 bsz:X.base.objs.size<=X.s₀.heap.objs.size
 noex:∀b o,X.base.get? b=some o->b∉X.ex
 exfs:∀b∈X.ex,b∉X.fs
 funs:X.s₀.heap.FunFrames X.base X.outer
 frf:∀b∈X.fs,X.H₀ b=none
structure Inv(X:Cx)(FR:gV 0)(σ:x_ (y_ V))(H:Hp)(s:q_):Prop where
 ok:X.Ok
 os:s.os=X.s₀.os
 bare:AllBare s.gens
 base:Un X.fs X.ex X.H₀ H X.s₀.heap s.heap
 loc:∃m,s.heap.Ns X.env.locals m/\∀(i:Nat)(x:Str)(v:V),X.N[i]?=some x->σ[i]?=some (some v)->Vis X.env.scope x->∃u,RelV v u/\Look X.env s.heap m x u
 cell:∀x c,X.env.cells.lookup x=some c->∃v,s.heap.IsCell c v
 free:H X.env.locals=none
 freeC:∀x c,X.env.cells.lookup x=some c->H c=none
 pin:∀p∈X.pn++FR,s.heap.get? p.1=some p.2/\H p.1=none/\p.1≠X.env.locals/\p.1∉X.fs/\∀v,p.2.data≠.cell v
 hok:HOk X.prog X.w H s.heap
 len:σ.length=X.N.length
variable{X:Cx}
theorem Cx.Ok.nofr(ok:X.Ok){b:r_}{o:Obj}(e:X.base.get? b=a_ o):b∉X.fs:=λhb=>by have:=(ok.funs.mem hb).1;rw[e]at this;cases this
variable{FR:gV 0}{s:q_}
theorem Inv.bs{σ:x_ (y_ V)}(I:N_ s):∀b o,X.base.get? b=a_ o->Y1 0=a_ o/\H b=b_:=λb o e=>⟨I.base.keep b o (I.ok.bs b o e).1 (I.ok.bs b o e).2 (I.ok.nofr e) (I.ok.noex b o e),I.base.free b o (I.ok.bs b o e).1 (I.ok.bs b o e).2 (I.ok.noex b o e)⟩
theorem Inv.bk{σ:x_ (y_ V)}(I:N_ s):∀b o,X.base.get? b=a_ o->Y1 0=a_ o:=λb o e=>(I.bs b o e).1
theorem Inv.mod{σ:x_ (y_ V)}(I:N_ s):Mod X.K X.mg X.base:=I.ok.mod
theorem Inv.kIn{σ:x_ (y_ V)}(I:N_ s):X.K.In s.heap:=I.ok.mod.kin.keeps I.bk
theorem Inv.lt{σ:x_ (y_ V)}(I:N_ s):X.env.locals<(e_ s):=let ⟨_,hn,_⟩:=I.loc;hn.lt
theorem Inv.sz{σ:x_ (y_ V)}(I:N_ s):X.s₀.heap.objs.size<=(e_ s):=Wu I.ok.above (XE I.lt)
theorem Inv.nofs{σ:x_ (y_ V)}(I:N_ s)(h:(e_ s)<=a):a∉X.fs:=λhb=>by let⟨_,o,ho,_⟩:=I.ok.funs.mem hb;show absurd (zr (zi ho) (Wu I.sz h)) (WT _)
theorem Inv.cne{σ:x_ (y_ V)}(I:N_ s):∀x c,T_ 0=a_ c->c≠X.env.locals:=λx c e z=>by let⟨v,o,ho,hd⟩:=I.cell x c e;let⟨m,⟨o',es,ep,br,bq,_⟩,_⟩:=I.loc;rw[z,br]at ho;cases ho;rw[bq]at hd;cases hd
theorem Inv.funs{σ:x_ (y_ V)}(I:N_ s):s.heap.FunFrames X.base X.outer:=by
 let all:∀(l:x_ Env),(∀b∈frs l,b∈X.fs)->X.s₀.heap.FunFrames X.base l->s.heap.FunFrames X.base l:=by
  intro l
  induction l with
  |nil=>intro _ _;trivial
  |cons env r ih=>intro hs hl;let⟨hk,⟨L,o,hf,hn,ho,hd⟩,hr⟩:=hl;let hL:L∈X.fs:=hs L (by unfold frs;rw[X6,hf];show y8);let⟨sl,e⟩:=I.base.slot L o ho (I.ok.frf L hL) hL λz=>I.ok.exfs L z hL;show⟨hk,⟨L,_,hf,hn,e,hd⟩,ih (λb hb=>hs b (by unfold frs;rw[X6,hf];show y9 _ hb)) hr⟩
 show all X.outer (λ_ hb=>hb) I.ok.funs
theorem Inv.stack{σ:x_ (y_ V)}(I:N_ s):s.heap.FunFrames X.base X.stack:=by
 rcases I.ok.stk with e|⟨e,hf⟩
 ·rw[e];show I.funs
 ·rw[e];let⟨m,hn,_⟩:=I.loc;refine .cons (by rw[I.ok.kind];decide) hf hn ?_ I.funs;show Heap.get?_none_of_le (Wu I.ok.bsz I.ok.above)
theorem Inv.stkSub{σ:x_ (y_ V)}(I:N_ s):∀b∈frs X.stack,b∈X.env.locals::X.fs:=λb hb=>by
 rcases I.ok.stk with e|⟨e,hf⟩
 ·rw[e]at hb;show y9 _ hb
 ·rw[e]at hb;unfold frs at hb;rw[X6,hf]at hb;show hb
theorem Inv.stkFree{σ:x_ (y_ V)}(I:N_ s):∀b∈frs X.stack,H b=b_:=λb hb=>by
 rcases zq.mp (I.stkSub b hb) with e|hb
 ·rw[e];show I.free
 ·let⟨_,o,ho,_⟩:=I.ok.funs.mem hb;show I.base.free b o ho (I.ok.frf b hb) λz=>I.ok.exfs b z hb
variable{ch:x_ r_}{d':Drawn}{g':Array GenState}{t':Nat}
theorem Inv.step{σ:x_ (y_ V)}(I:N_ s)(fe:∀b∈ch,(b∈X.ex\/X.s₀.heap.objs.size<=b)/\b≠X.env.locals/\(∀x c,T_ 0=a_ c->c≠b)/\∀p∈X.pn++FR,p.1≠b)(keep:∀b o,b≠X.env.locals->b∉X.fs->b∉ch->Y1 0=a_ o->H b=b_->ZW 0=a_ o)(slot:∀b o,b≠X.env.locals->b∈X.fs->b∉ch->Y1 0=a_ o->H b=b_->∃sl,ZW 0=a_ { o with slots:=sl})(free:∀b o,b∉ch->Y1 0=a_ o->H b=b_->H' b=b_)(there:∀b o,b∉ch->Y1 0=a_ o->∃o',ZW 0=a_ o')(tups:∀b xs,H b=a_ (.tup xs)->H' b=a_ (.tup xs))(frzs:∀b o u,H b=a_ (.frz o u)->H' b=a_ (.frz o u))(tbls:∀b ps,H b=a_ (.tbl ps)->∃more,H' b=a_ (.tbl (ps++more)))(ns:∀m,s.heap.Ns X.env.locals m->h'.Ns X.env.locals m)(hok:HOk X.prog X.w H' h')(hg:AllBare g'):
  h_ H' {s with heap:=h',gens:=g',drawn:=d',toks:=t'}:=by
 let ur:∀b o,X.s₀.heap.get? b=a_ o->b≠X.env.locals:=λb o e=>Io (zr (zi e) I.ok.above);let nq:∀b o,X.s₀.heap.get? b=a_ o->b∉X.ex->b∉ch:=λb o e hx hb=>by
  rcases(fe b hb).1 with z|z
  ·show hx z
  ·show absurd (zr (zi e) z) (WT _)
 let cellK:∀x c,T_ 0=a_ c->∀v,s.heap.IsCell c v->h'.IsCell c v:=λx c e v ⟨o,ho,hd⟩=>by
  let my:c∉ch:=λz=>(fe c z).2.2.1 x c e rfl;by_cases hc:c∈X.fs
  ·let⟨sl,q⟩:=slot c o (I.cne x c e) hc my ho (I.freeC x c e);show⟨_,q,hd⟩
  ·show⟨o,keep c o (I.cne x c e) hc my ho (I.freeC x c e),hd⟩
 refine⟨I.ok,I.os,hg,⟨λb o e n hb hx=>?_,λb o e n hb hx=>?_,λb o e n hx=>?_,λb o e hx=>?_,λb xs e=>tups b xs (I.base.tups b xs e),λb o xs e=>frzs b o xs (I.base.frzs b o xs e),λb ps e=>?_⟩,?_,λx c e=>?_,?_,λx c e=>?_,λp hp=>?_,hok,I.len⟩
 ·show keep b o (ur b o e) hb (nq b o e hx) (I.base.keep b o e n hb hx) (I.base.free b o e n hx)
 ·let⟨sl,e1⟩:=I.base.slot b o e n hb hx;let⟨vd,e2⟩:=slot b _ (ur b o e) hb (nq b o e hx) e1 (I.base.free b o e n hx);show⟨vd,e2⟩
 ·let⟨o',e1⟩:=I.base.there b o e hx;show free b o' (nq b o e hx) e1 (I.base.free b o e n hx)
 ·let⟨o',e1⟩:=I.base.there b o e hx;show there b o' (nq b o e hx) e1
 ·let⟨m1,e1⟩:=I.base.tbls b ps e;let⟨m2,e2⟩:=tbls b _ e1;show⟨m1++m2,by rw[e2,Array.append_assoc]⟩
 ·let⟨m,hn,hl⟩:=I.loc;refine⟨m,ns m hn,λi x v e1 e2 e3=>?_⟩;let⟨u,r,l⟩:=hl i x v e1 e2 e3;refine⟨u,r,?_⟩;rcases l with l|⟨k,c,e,z⟩
  ·show .inl l
  ·show .inr ⟨k,c,e,cellK x c e _ z⟩
 ·let⟨v,z⟩:=I.cell x c e;show⟨v,cellK x c e v z⟩
 ·let⟨m,⟨o,_,_,ho,_⟩,_⟩:=I.loc;show free _ o (λz=>(fe _ z).2.1 rfl) ho I.free
 ·let⟨v,o,ho,hd⟩:=I.cell x c e;show free c o (λz=>(fe c z).2.2.1 x c e rfl) ho (I.freeC x c e)
 ·let⟨e,n,ne,nf,d⟩:=I.pin p hp;let my:p.1∉ch:=λz=>(fe p.1 z).2.2.2 p hp rfl;show⟨keep p.1 p.2 ne nf my e n,free p.1 p.2 my e n,ne,nf,d⟩
theorem Inv.un{σ:x_ (y_ V)}(I:N_ s)(u:Un X.fs [] H H' s.heap h')(hok:HOk X.prog X.w H' h'):h_ H' {s with heap:=h',toks:=t'}:=by let⟨m,⟨o,es,ep,ho,r⟩,_⟩:=id I.loc;let⟨sl,hL⟩:=u.any ho I.free (by simp);show I.step (g':=s.gens) (d':=s.drawn) (ch:=[]) (λ_ z=>nomatch z) (λb o _ hb _ e n=>u.keep b o e n hb (by simp)) (λb o _ hb _ e n=>u.slot b o e n hb (by simp)) (λb o _ e n=>u.free b o e n (by simp)) (λb o _ e=>u.there b o e (by simp)) u.tups u.frzs u.tbls (λm' hm=>by let⟨o',dw,dj,br,r'⟩:=hm;rw[ho]at br;cases br;show⟨_,dw,dj,hL,r'⟩) hok I.bare
theorem Inv.call{σ:x_ (y_ V)}(I:N_ s)(u:Un (frs X.stack) ch H H' s.heap h')(hok:HOk X.prog X.w H' h')(hg:AllBare g')(fe:∀b∈ch,(b∈X.ex\/X.s₀.heap.objs.size<=b)/\b≠X.env.locals/\(∀x c,T_ 0=a_ c->c≠b)/\∀p∈X.pn++FR,p.1≠b):
  h_ H' {s with heap:=h',gens:=g',drawn:=d',toks:=t'}:=by
 let⟨m,⟨o,es,ep,ho,r⟩,_⟩:=id I.loc;let⟨sl,hL⟩:=u.any ho I.free λz=>(fe _ z).2.1 rfl;show I.step (ch:=ch) fe (λb o hL hb hc e n=>u.keep b o e n (λz=>(zq.mp (I.stkSub b z)).elim hL hb) hc) (λb o _ _ hc e n=>u.any e n hc) (λb o hc e n=>u.free b o e n hc) (λb o hc e=>u.there b o e hc) u.tups u.frzs u.tbls (λm' hm=>by let⟨o',dw,dj,br,r'⟩:=hm;rw[ho]at br;cases br;show⟨_,dw,dj,hL,r'⟩) hok hg
variable{it:r_}
theorem Inv.turned{σ:x_ (y_ V)}(I:N_ s)(k:∀b o,b≠it->Y1 0=a_ o->ZW 0=a_ o)(hn:H it=b_)(hL:it≠X.env.locals)(h1:it∈X.ex\/X.s₀.heap.objs.size<=it)(h2:∀x c,T_ 0=a_ c->c≠it)(h3:∀p∈X.pn++FR,p.1≠it):N_ {s with heap:=h',toks:=t'}:=by
 let kj:∀b u,H b=a_ u->b≠it:=λb u e z=>by rw[z,hn]at e;cases e
 refine I.step (g':=s.gens) (d':=s.drawn) (ch:=[it]) (λb hb=>?_) (λb o _ _ hc e _=>k b o (λz=>hc (by simp[z])) e) (λb o _ _ hc e _=>⟨o.slots,k b o (λz=>hc (by simp[z])) e⟩) (λ_ _ _ _ n=>n)
  (λb o hc e=>⟨o,k b o (λz=>hc (by simp[z])) e⟩) (λ_ _ e=>e) (λ_ _ _ e=>e) (λb ps e=>⟨#[],by rw[e];simp⟩) (λm hm=>?_) (λb u e=>?_) I.bare
 ·let e:b=it:=by simpa using hb
  subst e;show⟨h1,hL,h2,h3⟩
 ·let⟨o,es,ep,ho,r⟩:=hm;show⟨o,es,ep,k _ o (Yw hL) ho,r⟩
 ·refine(I.hok b u e).stay (λc v hc q=>k c v ?_ q) (λ_ q=>q) λ_ _ q=>q;rcases hc with z|z
  ·rw[z];show kj b u e
  ·show kj c _ z
theorem Inv.tok{σ:x_ (y_ V)}(I:N_ s)(t:Nat):N_ { s with toks:=t}:=I.un (h':=s.heap) (t':=t) Un.refl I.hok
theorem Inv.kept{σ:x_ (y_ V)}(I:N_ s)(k:∀b u,Y1 0=a_ u->ZW 0=a_ u):N_ {s with heap:=h',toks:=t'}:=I.un (Un.kept k) (I.hok.kept k)
theorem Inv.laid{σ:x_ (y_ V)}{o:HO}(I:N_ s)(k:∀b u,Y1 0=a_ u->ZW 0=a_ u)(hp:(e_ s)<=a)(new:Zj (R_ a o) h' a o):
  h_ (R_ a o) {s with heap:=h',toks:=t'}:=I.un (Un.laid k hp (I.hok.fresh hp)) (I.hok.laid k hp new)
theorem Inv.write{σ:x_ (y_ V)}{x e:r_}{o:HO}(I:N_ s)(mu:Mut (H x))(he:e=x\/H e=a_ (.own x))(k:∀b u,b≠e->Y1 0=a_ u->ZW 0=a_ u)(jy:∃u,h'.get? e=a_ u)(new:Zj (R_ x o) h' x o):h_ (R_ x o) {s with heap:=h',toks:=t'}:=I.un (Un.write mu he k jy) (I.hok.write mu he k jy new)
variable{cu:gV 0}
theorem Inv.pins_of{σ:x_ (y_ V)}(I:N_ s)(h:∀p∈cu,s.heap.get? p.1=a_ p.2/\H p.1=b_/\p.1≠X.env.locals/\p.1∉X.fs/\∀v,p.2.data≠.cell v):Inv X cu σ H s:=⟨I.ok,I.os,I.bare,I.base,I.loc,I.cell,I.free,I.freeC,λp hp=>(Wc.mp hp).elim (λz=>I.pin p (WR _ z)) (h p),I.hok,I.len⟩
variable{N:Zw 0}{i j:Nat}{x:Str}
theorem Fh(hN:N.Nodup)(a:N[i]?=a_ x)(b:N[j]?=a_ x):i=j:=by let⟨h1,e1⟩:=yy.mp a;let⟨h2,e2⟩:=yy.mp b;show(List.getElem_inj hN).mp (e1.trans e2.symm)
variable{A:td}{E:f_ 0}{M:Model}{v:V}
theorem CM{σ:x_ (y_ V)}{Q:jn Unit}(I:N_ s)(hN:X.N.Nodup)(hi:X.N[i]?=a_ x)(hx:Loc X.env.scope x)(r:ZF u)(h:∀s',Inv X FR (σ.set i (a_ v)) H s'->(∃a,WX a s.heap s'.heap/\(a=X.env.locals\/T_ 0=a_ a))->Q () s')(hf:X.fn x=true\/YZ 0=a_ .local:=by first|exact .inl rfl|exact .inr rfl|assumption):wpAny M A (storeName X.env x u) Q E s:=by
 let⟨m,hn,hl⟩:=id I.loc;let pb:(X.env.scope.kind == .class || (X.env.scope.kind == .module&&X.env.locals != X.env.globals))=false:=by rw[I.ok.kind];rfl
 let r9:i<σ.length:=by rw[I.len];show(yy.mp hi).1
 let cne:=I.cne;let tracked:∀{a:r_}{h':t_},(∃o,s.heap.get? a=a_ o/\H a=b_)->WX a s.heap h'->HOk X.prog X.w H h':=λ{a h'} ha hs b ob e=>by
  let⟨_,_,g8⟩:=ha;refine(I.hok b ob e).stay (λc w' hc q=>(hs.2 c ?_).trans q) (λ_ q=>q) λ_ _ q=>q;rintro rfl;rcases hc with rfl|hc
  ·rw[g8]at e;cases e
  ·rw[g8]at hc;cases hc
 rcases hx with hk|hk
 ·refine wpAny_storeName_local hk hn (λh' jw hs=>?_) pb;let⟨oL,_,_,gi,_⟩:=id hn;refine h _ ⟨I.ok,I.os,I.bare,⟨λb o e n hb hx=>?_,λb o e n hb hx=>?_,I.base.free,λb o e hx=>?_,I.base.tups,I.base.frzs,I.base.tbls⟩,⟨_,jw,λj y v' e1 e2 e3=>?_⟩,λy c e=>?_,I.free,I.freeC,λp hp=>?_,tracked ⟨oL,gi,I.free⟩ hs,ke I.len⟩ ⟨_,hs,.inl rfl⟩
  ·show(hs.2 b (Io (zr (zi e) I.ok.above))).trans (I.base.keep b o e n hb hx)
  ·let⟨sl,e1⟩:=I.base.slot b o e n hb hx;show⟨sl,(hs.2 b (Io (zr (zi e) I.ok.above))).trans e1⟩
  ·let⟨o',e1⟩:=I.base.there b o e hx;show⟨o',(hs.2 b (Io (zr (zi e) I.ok.above))).trans e1⟩
  ·by_cases hj:j=i
   ·subst hj;rw[hi]at e1;cases e1;rw[Wz r9]at e2;cases e2
    show⟨u,r,.inl ⟨hk,by simp⟩⟩
   ·rw[Wd (Yw hj)]at e2;let⟨u',r',q⟩:=hl j y v' e1 e2 e3;refine⟨u',r',?_⟩;rcases q with⟨k,e⟩|⟨k,c,e,z⟩
    ·refine .inl ⟨k,?_⟩;have:y≠x:=λe=>hj (Fh hN e1 (e▸hi));simp[this,e]
    ·show .inr ⟨k,c,e,z.sameBut hs (cne y c e)⟩
  ·let⟨w',z⟩:=I.cell y c e;show⟨w',z.sameBut hs (cne y c e)⟩
  ·let⟨e,n,ne,nf,d⟩:=I.pin p hp;show⟨(hs.2 p.1 ne).trans e,n,ne,nf,d⟩
 ·let qu:X.fn x=true:=by
   rcases hf with z|z
   ·show z
   ·rw[z]at hk;cases hk
  let⟨c,hc⟩:=I.ok.has x (.inl hk);let⟨w',z⟩:=I.cell x c hc;refine wpAny_storeName_cell I.ok.kind hk hc z (λh' ae hs=>?_);let⟨oc,fc,ow⟩:=id z;refine h {s with heap:=h'} ⟨I.ok,I.os,I.bare,⟨λb o e n hb hx=>?_,λb o e n hb hx=>?_,I.base.free,λb o e hx=>?_,I.base.tups,I.base.frzs,I.base.tbls⟩,⟨m,hn.sameBut hs (Yw (cne x c hc)),λj y v' e1 e2 e3=>?_⟩,λy c' e=>?_,I.free,I.freeC,λp hp=>?_,tracked ⟨oc,fc,I.freeC x c hc⟩ hs,ke I.len⟩ ⟨c,hs,.inr hc⟩
  ·show(hs.2 b (Io (zr (zi e) (I.ok.cab x c qu hc)))).trans (I.base.keep b o e n hb hx)
  ·let⟨sl,e1⟩:=I.base.slot b o e n hb hx;show⟨sl,(hs.2 b (Io (zr (zi e) (I.ok.cab x c qu hc)))).trans e1⟩
  ·let⟨o',e1⟩:=I.base.there b o e hx;show⟨o',(hs.2 b (Io (zr (zi e) (I.ok.cab x c qu hc)))).trans e1⟩
  ·by_cases hj:j=i
   ·subst hj;rw[hi]at e1;cases e1;rw[Wz r9]at e2;cases e2
    show⟨u,r,.inr ⟨.inl hk,c,hc,ae⟩⟩
   ·rw[Wd (Yw hj)]at e2;let⟨u',r',q⟩:=hl j y v' e1 e2 e3;refine⟨u',r',?_⟩;rcases q with q|⟨k,c',e,z'⟩
    ·show .inl q
    ·refine .inr ⟨k,c',e,z'.sameBut hs ?_⟩;rintro rfl;show hj (Fh hN e1 (I.ok.inj _ _ _ e hc▸hi))
  ·by_cases ik:c'=c
   ·subst ik;show⟨_,ae⟩
   ·let⟨w2,z2⟩:=I.cell y c' e;show⟨w2,z2.sameBut hs ik⟩
  ·let⟨e,n,ne,nf,d⟩:=I.pin p hp;refine⟨(hs.2 p.1 ?_).trans e,n,ne,nf,d⟩;intro q;rw[q,fc]at e;let q':oc=p.2:=zl e;show d w' (by rw[<-q'];show ow)
theorem Fi{σ:x_ (y_ V)}{Q:jn Unit}(I:N_ s)(hN:X.N.Nodup)(hi:X.N[i]?=a_ x)(hx:Loc X.env.scope x)(r:ZF u)(h:∀s',Inv X FR (σ.set i (a_ v)) H s'->Q () s')(hf:X.fn x=true\/YZ 0=a_ .local:=by first|exact .inl rfl|exact .inr rfl|assumption):wpAny M A (storeName X.env x u) Q E s:=CM I hN hi hx r (λs' I' _=>h s' I') hf
variable{s':q_}
theorem Inv.call'{σ:x_ (y_ V)}(I:N_ s)(ho:s'.os=s.os)(u:Un (frs X.stack) ch H H' s.heap s'.heap)(hok:HOk X.prog X.w H' s'.heap)(hg:AllBare s'.gens)(fe:∀b∈ch,(b∈X.ex\/X.s₀.heap.objs.size<=b)/\b≠X.env.locals/\(∀x c,T_ 0=a_ c->c≠b)/\∀p∈X.pn++FR,p.1≠b):h_ H' s':=by let⟨h',g',d',t',o'⟩:=s';let e:o'=s.os:=ho;subst e;show I.call (g':=g') (t':=t') (d':=d') u hok hg fe
abbrev XK:=qe->y_ r_->Hp->Prop
abbrev St:=x_ (y_ V)
abbrev VK:=V->Hp->Prop
abbrev TE:=St->Hp->VK->Prop
abbrev TT:=St->Hp->(Bool->Hp->Prop)->Prop
abbrev TA:=St->Hp->(x_ V->Hp->Prop)->Prop
structure Ends where
 nx:St->Hp->Prop
 rt:VK
 bk:St->Hp->Prop:=λ_ _=>False
 ct:St->Hp->Prop:=λ_ _=>False
abbrev TS:=Ends->St->Hp->Prop
def EP(X:Cx)(FR:gV 0)(σ:St)(Q:VK)(u:qe)(s':q_):Prop:=∃v H',h_ H' s'/\ZF u/\Q v H'
def TP(X:Cx)(FR:gV 0)(σ:St)(Q:Bool->Hp->Prop)(b:Bool)(s':q_):Prop:=∃H',h_ H' s'/\Q b H'
def AP(X:Cx)(FR:gV 0)(σ:St)(Q:x_ V->Hp->Prop)(us:ZE 0)(s':q_):Prop:=∃vs H',h_ H' s'/\aS vs us/\Q vs H'
def SP(X:Cx)(FR:gV 0)(D:Ends)(f:Flow)(s':q_):Prop:=
 match f with
 |.next=>∃σ' H',ZU s'/\D.nx σ' H'
 |.brk=>∃σ' H',ZU s'/\D.bk σ' H'
 |.cont=>∃σ' H',ZU s'/\D.ct σ' H'
 |.ret u=>∃v σ' H',ZU s'/\ZF u/\D.rt v H'
def PE(X:Cx)(e:v_)(t:TE):Prop:=
 ∀(FR:gV 0)(s:q_)(σ:St)(H:Hp)(Q:VK),N_ s->t σ H Q->wpAny (g_ X) X.A (X_ 0) (Y2 Q) X.xe s
def PT(X:Cx)(e:v_)(t:TT):Prop:=
 ∀(FR:gV 0)(s:q_)(σ:St)(H:Hp)(Q:Bool->Hp->Prop),N_ s->t σ H Q->wpAny (g_ X) X.A (isTrue e X.env (X_ 0)) (TP X FR σ Q) X.xe s
def PW(X:Cx)(e:v_)(t:TT):Prop:=
 ∀(whole:Sem qe)(FR:gV 0)(s:q_)(σ:St)(H:Hp)(Q:Bool->Hp->Prop),N_ s->t σ H Q->wpAny (g_ X) X.A (isTrue e X.env whole) (TP X FR σ Q) X.xe s
variable{e:v_}
theorem PW.pt{t:TT}(h:PW X e t):PT X e t:=h _
def PA(X:Cx)(es:x_ v_)(t:TA):Prop:=
 ∀(pos:Pos)(FR:gV 0)(s:q_)(σ:St)(H:Hp)(Q:x_ V->Hp->Prop),N_ s->t σ H Q->wpAny (g_ X) X.A (spliced (Ze (U_ 0))) (AP X FR σ Q) X.xe s
def PS(X:Cx)(st:w_)(t:TS):Prop:=
 ∀(FR:gV 0)(s:q_)(σ:St)(H:Hp)(D:Ends),N_ s->t D σ H->wpAny (g_ X) X.A (exec st X.env) (SP X FR D) X.xe s
def PSs(X:Cx)(st:x_ w_)(t:TS):Prop:=
 ∀(FR:gV 0)(s:q_)(σ:St)(H:Hp)(D:Ends),N_ s->t D σ H->wpAny (g_ X) X.A (execs st X.env) (SP X FR D) X.xe s
theorem thn{α:Type}{t:Sem α}{Q Q':α->q_->Prop}(h:wpAny M A t Q E s)(hQ:∀a s,Q a s->Q' a s):wpAny M A t Q' E s:=Xg h hQ λ_ _ x=>x
variable{pos:Pos}{Q:f_ 0}{σ:St}{tA:TT}{c:v_}{ta:TE}
section
def UZ(i:Nat):TE:=λσ H Q=>∃v,σ[i]?=a_ (a_ v)/\Q v H
def tC(v:V):TE:=λ_ H Q=>Q v H
theorem QT(hN:X.N[i]?=a_ x)(hv:Vis X.env.scope x)(hd:(x == ("__debug__" : Str))=false:=by decide)(d8:(x == ("__classdict__" : Str))=false:=by decide):Zx (.Name x pos) (UZ i):=by
 intro FR s σ H Q I h;let⟨v,e,h⟩:=h;let⟨m,hn,hl⟩:=I.loc;let⟨u,r,l⟩:=hl i x v hN e hv;let fin:Y2 Q u s:=⟨v,H,I,r,h⟩;rcases l with⟨hk,hm⟩|⟨hk,c,hc,c5⟩
 ·show wpAny_Name (wpAny_loadName_local I.ok.kind hk hn hm fin) hd
 ·rcases hk with hk|hk
  ·show wpAny_Name (wpAny_loadName_cell I.ok.kind hk hc c5 fin) hd
  ·show wpAny_Name (wpAny_loadName_free I.ok.kind hk hc c5 fin d8) hd
theorem QU{i j pos}:Zx (.Constant (.int i) j pos) (tC (.int i)):=λ_ _ _ H _ I h=>wpAny_Constant_int ⟨.int i,H,Zy 0,⟨_,rfl⟩,h⟩
theorem Ta{b j pos}:Zx (.Constant (.bool b) j pos) (tC (.bl b)):=λ_ _ _ H _ I h=>Constant_bool ⟨.bl b,H,I,rfl,h⟩
theorem QV{j pos}:Zx (.Constant .none j pos) (tC .non):=λ_ _ _ H _ I h=>Constant_none ⟨.non,H,I,rfl,h⟩
theorem QW{x j pos}:Zx (.Constant (.str x) j pos) (tC (.str x)):=λ_ _ _ H _ I h=>Calls.Constant_str ⟨.str x,H,Zy 0,⟨_,rfl⟩,h⟩
def Gl(X:Cx)(x:Str):Prop:=X.env.kindOf x=a_ .globalImplicit
theorem nS(I:N_ s)(hg:Gl X x)(hm:X.mg x=a_ u)(h:Q u s)(hd:(x == ("__debug__" : Str))=false:=by decide):wpAny (g_ X) X.A (eval (.Name x pos) X.env) Q E s:=Calls.Name_function_global I.ok.kind hg (Calls.loadGlobal_global (by rw[I.ok.glob];show I.mod.glob.keeps I.bk) hm h) hd
theorem sT(I:N_ s)(hg:Gl X x)(hm:X.mg x=b_)(hv:XD x=a_ u)(h:Q u s)(hn:x≠"__name__" := by decide)(hd:(x == ("__debug__" : Str))=false:=by decide):wpAny (g_ X) X.A (eval (.Name x pos) X.env) Q E s:=by let⟨mb,h1,h2⟩:=I.mod.blt;show Calls.Name_function_global I.ok.kind hg (Calls.loadGlobal_builtin (by rw[I.ok.glob];show I.mod.glob.keeps I.bk) hm (by rw[I.ok.blt];show h1.keeps I.bk) ((h2 x hn).trans hv) h) hd
theorem O5(hg:Gl X x)(hm:X.mg x=a_ u)(r:ZF u)(hd:(x == ("__debug__" : Str))=false:=by decide):Zx (.Name x pos) (tC v):=
 λ_ _ _ H _ I h=>nS I hg hm ⟨v,H,I,r,h⟩ hd
theorem O6(hg:Gl X x)(hm:X.mg x=b_)(hv:XD x=a_ u)(r:ZF u)(hn:x≠"__name__" := by decide)(hd:(x == ("__debug__" : Str))=false:=by decide):Zx (.Name x pos) (tC v):=
 λ_ _ _ H _ I h=>sT I hg hm hv ⟨v,H,I,r,h⟩ hn hd
variable{a b:v_}{tb:TE}{u0:TT}{rest:x_ v_}
def tOr(t u:TT):TT:=λσ H Q=>t σ H λc H1=>if c=true then Q true H1 else u σ H1 Q
def V0(t:TT):TT:=λσ H Q=>t σ H λc H1=>Q (!c) H1
theorem QX(ha:PT X a tA):PW X (.BoolOp .Or [a] pos) tA:=by
 intro wh FR s σ H Q I h;refine isTrue_or (thn (ha FR s σ H Q I h) λc s1 e=>?_);cases c with
 |false=>exact isTrue_or_nil e
 |true=>exact e
theorem Tb(ha:PT X a tA)(hb:PW X (.BoolOp .Or (b::rest) pos) u0):PW X (.BoolOp .Or (a::b::rest) pos) (tOr tA u0):=by
 intro wh FR s σ H Q I h;refine isTrue_or (thn (ha FR s σ H _ I h) λc s1 ⟨H1,I1,q1⟩=>?_);cases c with
 |true=>exact⟨H1,I1,q1⟩
 |false=>exact hb wh FR s1 σ H1 Q I1 q1
theorem QY(ha:PT X a tA):PT X (.UnaryOp .Not a pos) (V0 tA):=by intro FR s σ H Q I h;show isTrue_not (ha FR s σ H (λc H1=>Q (!c) H1) I h)
theorem QZ{op}{t:TE}(h:Zx a t):Zx (.BoolOp op [a] pos) t:=λFR s σ H Q I hw=>BoolOp_one (Zd Q I hw)
def tIf(t:TT)(ta tb:TE):TE:=λσ H Q=>t σ H λc H1=>if c=true then ta σ H1 Q else tb σ H1 Q
theorem Lg(hc:PT X c tA)(ha:Zx a ta)(hb:Zx b tb):Zx (.IfExp c a b pos) (tIf tA ta tb):=by
 intro FR s σ H Q I h;refine wpAny_IfExp (thn (hc FR s σ H _ I h) λd s1 ⟨H1,I1,q1⟩=>?_);cases d with
 |true=>exact ha FR s1 σ H1 Q I1 q1
 |false=>exact hb FR s1 σ H1 Q I1 q1
end
def SqL(K:y0)(H:Hp)(a:r_)(xs:x_ V):Prop:=
 Rd H a (.lst xs)\/
  ∃(o:Obj)(its:Y6 0)(n:Nat),K.lookup a=a_ o/\o.cls=.type "list" /\ o.dict=b_/\o.data=.seq its n/\its.size<=zf/\aS xs its.toList
def SqT(K:y0)(H:Hp)(a:r_)(xs:x_ V):Prop:=
 Rd H a (.tup xs)\/
  ∃(o:Obj)(its:Y6 0)(n:Nat),K.lookup a=a_ o/\o.cls=.type "tuple" /\ o.data=.seq its n/\its.size<=zf/\aS xs its.toList/\o.dict=b_
def V1:qe->y_ V
 |.none=>a_ .non
 |.bool b=>a_ (.bl b)
 |.int i _=>d_ i
 |.str x _=>a_ (.str x)
 |.bytes b _=>a_ (.byt b)
 |.float b _=>a_ (.flt b)
 |.ref a=>c_ a
 |.type n=>a_ (.ty n)
 |_=>b_
theorem RelV.abs{x:V}(r:Zr u):V1 u=a_ x:=by
 cases x with
 |non=>cases r;rfl
 |bl _=>cases r;rfl
 |int _=>let⟨t,rfl⟩:=r;rfl
 |str _=>let⟨t,rfl⟩:=r;rfl
 |byt _=>let⟨t,rfl⟩:=r;rfl
 |flt _=>let⟨t,rfl⟩:=r;rfl
 |ref _=>cases r;rfl
 |ty _=>cases r;rfl
variable{y:V}
theorem RelV.inj{x:V}(r:Zr u)(q:Z4 u):x=y:=zl (r.abs.symm.trans q.abs)
theorem aS.inj:∀{xs ys:x_ V}{us:ZE 0},aS xs us->aS ys us->xs=ys
 |_,_,_,.nil,.nil=>rfl
 |_,_,_,.cons r t,.cons r' t'=>by rw[r.inj r',aS.inj t t']
variable{K:y0}
theorem SqL.of{xs:x_ V}(h:H a=a_ (.lst xs)):ZI a xs:=.inl (.inl h)
theorem SqT.of{xs:x_ V}(h:H a=a_ (.tup xs)):ZD a xs:=.inl (.inl h)
theorem Inv.list{xs:x_ V}(I:N_ s)(h:SqL X.K H a xs):∃its:ZE 0,aS xs its/\PlainL s.heap a its.toArray/\xs.length<=zf:=by
 rcases h with h|⟨o,its,n,hk,hc,hd,hs,hz,r⟩
 ·let⟨z,its,n,r,e⟩:=h.ok I.hok;show⟨its,r,⟨_,n,e,rfl,rfl,rfl⟩,z⟩
 ·refine⟨its.toList,r,⟨o,n,I.kIn a o hk,hc,hd,ke hs⟩,?_⟩;let e:=r.length;simp only[YG]at e;omega
theorem Inv.tuple{xs:x_ V}(I:N_ s)(h:SqT X.K H a xs):∃its:ZE 0,aS xs its/\IsTup s.heap a its.toArray/\xs.length<=zf:=by
 rcases h with h|⟨o,its,n,hk,hc,hs,hz,r,_⟩
 ·let⟨z,its,r,p⟩:=h.ok I.hok;show⟨its,r,p.is,z⟩
 ·refine⟨its.toList,r,⟨o,I.kIn a o hk,hc,n,ke hs⟩,?_⟩;let e:=r.length;simp only[YG]at e;omega
theorem Inv.list_inj{xs:x_ V}{ys:x_ V}(I:N_ s)(h:SqL X.K H a xs)(h':SqL X.K H a ys):xs=ys:=by
 let⟨its,r,⟨o,n,e,_,_,d⟩,_⟩:=I.list h;let⟨its',r',⟨o',n',e',_,_,d'⟩,_⟩:=I.list h';rw[e]at e';cases e';rw[d]at d';injection d' with d1 _;have:its=its':=by simpa using congrArg Array.toList d1
 subst this;show r.inj r'
theorem Inv.tuple_inj{xs:x_ V}{ys:x_ V}(I:N_ s)(h:SqT X.K H a xs)(h':SqT X.K H a ys):xs=ys:=by
 let⟨its,r,⟨o,e,_,n,d⟩,_⟩:=I.tuple h;let⟨its',r',⟨o',e',_,n',d'⟩,_⟩:=I.tuple h';rw[e]at e';cases e';rw[d]at d';injection d' with d1 _;have:its=its':=by simpa using congrArg Array.toList d1
 subst this;show r.inj r'
abbrev Cx.wish(X:Cx)(E:f_ 0):Cx:={ X with xe:=E}
abbrev Cx.nox(X:Cx):Cx:=X.wish λ_ _=>False
theorem Cx.Ok.wish(ok:X.Ok)(E:f_ 0):(X.wish E).Ok:=⟨ok.mod,ok.kind,ok.glob,ok.blt,ok.above,ok.inj,ok.has,ok.cab,ok.hd,ok.frames,ok.stk,ok.exf,ok.bs,ok.bsz,ok.noex,ok.exfs,ok.funs,ok.frf⟩
theorem Cx.Ok.unwish(ok:(X.wish E).Ok):X.Ok:=⟨ok.mod,ok.kind,ok.glob,ok.blt,ok.above,ok.inj,ok.has,ok.cab,ok.hd,ok.frames,ok.stk,ok.exf,ok.bs,ok.bsz,ok.noex,ok.exfs,ok.funs,ok.frf⟩
theorem Inv.wish(I:N_ s)(E:f_ 0):Inv (X.wish E) FR σ H s:=⟨I.ok.wish E,I.os,I.bare,I.base,I.loc,I.cell,I.free,I.freeC,I.pin,I.hok,I.len⟩
theorem Inv.unwish(I:Inv (X.wish E) FR σ H s):N_ s:=⟨I.ok.unwish,I.os,I.bare,I.base,I.loc,I.cell,I.free,I.freeC,I.pin,I.hok,I.len⟩
theorem SP.unwish{D:Ends}{f:Flow}(h:SP (X.wish E) FR D f s'):SP X FR D f s':=by
 cases f with
 |next=>let⟨σ',H',I,q⟩:=h;show⟨σ',H',I.unwish,q⟩
 |brk=>let⟨σ',H',I,q⟩:=h;show⟨σ',H',I.unwish,q⟩
 |cont=>let⟨σ',H',I,q⟩:=h;show⟨σ',H',I.unwish,q⟩
 |ret u=>let⟨v,σ',H',I,r,q⟩:=h;show⟨v,σ',H',I.unwish,r,q⟩
theorem PSs.nox{st:x_ w_}{t:TS}(h:PSs X.nox st t):PSs X st t:=λFR s σ H D I hw=>Xg (Zd D (I.wish _) hw) (λ_ _ q=>q.unwish) λ_ _ z=>Xh z
variable{st:w_}{te:TE}{tc:TT}
section
variable{rest:x_ w_}{t u:TS}
def Tc:TS:=λD σ H=>D.nx σ H
def V2(t u:TS):TS:=λD σ H=>t { D with nx:=u D} σ H
theorem O7:PSs X [] Tc:=λ_ _ σ H _ I h=>wpAny_execs_nil ⟨σ,H,I,h⟩
theorem Lh(h1:PS X st t)(h2:PSs X rest u):PSs X (st::rest) (V2 t u):=by
 intro FR s σ H D I h;refine wpAny_execs_cons (thn (h1 FR s σ H { D with nx:=u D} I h) λf s1 q=>?_);cases f with
 |next=>let⟨σ',H',I',q⟩:=q;show h2 FR s1 σ' H' D I' q
 |ret v=>exact q
 |brk=>exact q
 |cont=>exact q
theorem O8(h1:PS X st t):PSs X [st] t:=by
 intro FR s σ H D I h;refine wpAny_execs_cons (thn (h1 FR s σ H D I h) λf s1 q=>?_);cases f with
 |next=>exact wpAny_execs_nil q
 |ret v=>exact q
 |brk=>exact q
 |cont=>exact q
def Td:TS:=λD σ H=>D.ct σ H
theorem Fj:PS X (.Continue pos) Td:=λ_ _ σ H _ I h=>wpAny_Continue ⟨σ,H,I,h⟩
theorem Inv.quiet(I:N_ s):interactive X.env=false:=by simp[interactive,I.ok.kind]
def Te(te:TE):TS:=λD σ H=>te σ H λ_ H1=>D.nx σ H1
theorem O9(he:Zx e te)(hs:swapsWith e b_ pos.line X.env=pure false:=by rfl):PS X (.Expr e pos) (Te te):=by intro FR s σ H D I h;show wpAny_Expr_any (thn (he FR s σ H _ I h) λv s1 ⟨x,H1,I1,r1,q1⟩=>⟨σ,H1,I1,q1⟩) I.quiet hs
def V3(te:TE):TS:=λD σ H=>te σ H D.rt
theorem R0(he:Zx e te):PS X (.Return (a_ e) pos) (V3 te):=by intro FR s σ H D I h;show wpAny_Return_some (thn (he FR s σ H _ I h) λv s1 ⟨x,H1,I1,r1,q1⟩=>⟨x,σ,H1,I1,r1,q1⟩)
def V4(c:TT)(t u:TS):TS:=λD σ H=>c σ H λb H1=>if b=true then t D σ H1 else u D σ H1
theorem Tf{a b:x_ w_}(hc:PT X c tc)(ha:PSs X a t)(hb:PSs X b u):PS X (.If c a b pos) (V4 tc t u):=by
 intro FR s σ H D I h;refine wpAny_If (thn (hc FR s σ H _ I h) λd s1 ⟨H1,I1,q1⟩=>?_);cases d with
 |true=>exact ha FR s1 σ H1 D I1 q1
 |false=>exact hb FR s1 σ H1 D I1 q1
end
abbrev TG:=V->St->Hp->(St->Hp->Prop)->Prop
abbrev TGs:=x_ V->St->Hp->(St->Hp->Prop)->Prop
def PG(X:Cx)(target:v_)(t:TG):Prop:=
 ∀(FR:gV 0)(s:q_)(σ:St)(H:Hp)(v:V)(u:qe)(Q:St->Hp->Prop),N_ s->ZF u->t v σ H Q->
  wpAny (g_ X) X.A (assign target X.env u) (λ_ s'=>∃σ' H',ZU s'/\Q σ' H') X.xe s
def PGs(X:Cx)(ts:x_ v_)(t:TGs):Prop:=
 ∀(FR:gV 0)(s:q_)(σ:St)(H:Hp)(vs:x_ V)(us:ZE 0)(Q:St->Hp->Prop),N_ s->aS vs us->t vs σ H Q->
  wpAny (g_ X) X.A (assignInOrder ((XB ts X.env).map (·.2)) us) (λ_ s'=>∃σ' H',ZU s'/\Q σ' H') X.xe s
abbrev V5:=V->V->V->Hp->(Hp->Prop)->Prop
def V6(X:Cx)(t:V5):Prop:=
 ∀(FR:gV 0)(s:q_)(σ:St)(H:Hp)(o i v:V)(ov iv u:qe)(Q:Hp->Prop),N_ s->RelV o ov->RelV i iv->ZF u->t o i v H Q->
  wpAny (g_ X) X.A (setItem ov iv u) (λ_ s'=>∃H',h_ H' s'/\Q H') X.xe s
def Li(i:Nat):TG:=λv σ H Q=>Q (σ.set i (a_ v)) H
theorem Oa(hN:X.N.Nodup)(hi:X.N[i]?=a_ x)(hx:Loc X.env.scope x)(hf:X.fn x=true\/YZ 0=a_ .local:=by first|exact .inl rfl|exact .inr rfl|assumption):PG X (.Name x pos) (Li i):=by intro FR s σ H v u Q I r h;show wpAny_assign_Name (Fi I hN hi hx r (λs' I'=>⟨_,H,I',h⟩) hf)
def V7:TGs:=λvs σ H Q=>vs=[]/\Q σ H
def Th(t:TG)(u:TGs):TGs:=λvs σ H Q=>∃v r,vs=v::r/\t v σ H λσ' H'=>u r σ' H' Q
theorem Ob:PGs X [] V7:=by
 intro FR s σ H vs us Q I r h;let⟨e,h⟩:=h;subst e;cases r
 show assignInOrder_nil ⟨σ,H,I,h⟩
variable{es:x_ v_}
theorem Lj{t:TG}{u:TGs}(h1:PG X e t)(h2:PGs X es u)(hs:(XB (e::es) X.env).map (·.2)=assign e X.env::(XB es X.env).map (·.2):=by rfl):PGs X (e::es) (Th t u):=by
 intro FR s σ H vs us Q I r h;let⟨v,vr,e1,h⟩:=h;subst e1;cases r with
 |cons r rr=>rw[hs];refine assignInOrder_cons (thn (h1 FR s σ H _ _ _ I r h) λ_ s1 ⟨σ1,H1,I1,q1⟩=>?_);show h2 FR s1 σ1 H1 _ _ Q I1 rr q1
def Ti(K:y0)(n:Nat)(t:TGs):TG:=λv σ H Q=>∃a xs,v=.ref a/\ZD a xs/\xs.length=n/\t xs σ H Q
variable{n:Nat}
theorem R1{k:Nat}{t:TGs}(hc:X.calm=true)(h:PGs X es t)(hn:(XB es X.env).length=n:=by rfl)(d0:(XB es X.env).findIdx? (·.1)=b_:=by rfl):PG X (.Tuple es k pos) (Ti X.K n t):=by
 intro FR s σ H v u Q I r hw;let⟨a,xs,e1,hq,hl,hw⟩:=hw;subst e1;cases r
 let⟨its,rv,ht,hz⟩:=I.tuple hq;refine assign_Tuple_tuple (I.ok.hd hc) ht (by simp[hn,<-hl,rv.length]) d0 λh' hx=>?_;let I1:N_ {s with heap:=h'}:=I.kept (t':=s.toks) λb o e=>hx b o (Io (zi e)) e;show h FR _ σ H xs _ Q I1 (ke rv) hw
def R3(te:TE)(g:TG):TS:=λD σ H=>te σ H λx H1=>g x σ H1 D.nx
variable{tg:v_}
theorem R4{g:TG}(he:Zx e te)(hg:PG X tg g)(hs:swapsWithSole [tg] e pos.line X.env=pure false:=by rfl)(hw:swappedStores [tg] e X.env=pure b_:=by rfl)(h1:(XB [tg] X.env).map (·.2)=[assign tg X.env]:=by rfl):PS X (.Assign [tg] e pos) (R3 te g):=by intro FR s σ H D I h;refine wpAny_Assign_stores (thn (he FR s σ H _ I h) λv s1 hz=>?_) hs hw;let⟨x,H1,I1,r1,q1⟩:=hz;rw[h1];show thn (hg FR s1 σ H1 x v _ I1 r1 q1) λ_ s2 q=>q
variable{pos':Pos}
theorem R5(hN:X.N.Nodup)(hi:X.N[i]?=a_ x)(hx:Loc X.env.scope x)(he:Zx e te)(hs:swapsWith e (a_ (.Name x pos')) pos.line X.env=pure false:=by rfl)(hf:X.fn x=true\/YZ 0=a_ .local:=by first|exact .inl rfl|exact .inr rfl|assumption):
  PS X (.Assign [.Name x pos'] e pos) (R3 te (Li i)):=by
 intro FR s σ H D I h;refine wpAny_Assign_Name (thn (he FR s σ H _ I h) λv s1 hz=>?_) hs;let⟨y,H1,I1,r1,q1⟩:=hz;show Fi I1 hN hi hx r1 (λs2 I2=>⟨_,H1,I2,q1⟩) hf
def R6(c:TT)(tb:TS):TS:=λD σ H=>∃W:Nat->St->Hp->Prop,(∃m,W m σ H)/\∀m σ H,W m σ H->
 c σ H λb H1=>if b=true then ∃N:St->Hp->Prop,(∀σ' H',N σ' H'->∃m',m'<m/\W m' σ' H')/\tb { D with nx:=N,ct:=N,bk:=D.nx} σ H1 else D.nx σ H1
variable{body:x_ w_}
theorem Lk{tb:TS}(hp:PassesOwn (g_ X) X.A X.env X.xe)(hc:PT X c tc)(hb:PSs X body tb):PS X (.While c body [] pos) (R6 tc tb):=by
 intro FR s σ H D I h;let⟨W,⟨m0,w0⟩,turn⟩:=h;refine wpAny_While (codeAny_whileLoop (λn s'=>∃σ' H',ZU s'/\W n σ' H') ?_ m0 ⟨σ,H,I,w0⟩);rintro n s1 ⟨σ1,H1,I1,w1⟩;refine XU hp (thn (hc FR s1 σ1 H1 _ I1 (turn n σ1 H1 w1)) λb s2 ⟨H2,I2,q2⟩=>?_);cases b with
 |true=>
  let⟨N,hN,q2⟩:=q2;rw[Zc 0];refine XU hp (thn (hb FR s2 σ1 H2 _ I2 q2) λf s3 q3=>?_);cases f with
  |next=>let⟨σ3,H3,I3,n3⟩:=q3;let⟨m',hm,w3⟩:=hN σ3 H3 n3;show⟨m',hm,σ3,H3,I3,w3⟩
  |cont=>let⟨σ3,H3,I3,n3⟩:=q3;let⟨m',hm,w3⟩:=hN σ3 H3 n3;show⟨m',hm,σ3,H3,I3,w3⟩
  |brk=>exact q3
  |ret v=>exact q3
 |false=>rw[if_neg zj];show wpAny_execs_nil ⟨σ1,H2,I2,q2⟩
structure It where
 go:Nat->Hp->Prop
 yld:Nat->Hp->V->Hp->Prop
 stop:Nat->Hp->Prop
def Fk(X:Cx)(FR:gV 0)(H:Hp)(b:r_):Prop:=H b=b_/\b≠X.env.locals/\b∉X.fs/\(b∈X.ex\/X.s₀.heap.objs.size<=b)/\(∀x c,T_ 0=a_ c->c≠b)/\∀p∈X.pn++FR,p.1≠b
theorem Inv.fpOk{b:r_}(I:N_ s)(hb:(e_ s)<=b)(hn:H' b=b_):Fk X FR H' b:=by
 refine⟨hn,YK (zr I.lt hb),I.nofs hb,.inr (Wu I.sz hb),λx c e z=>?_,λp hp z=>?_⟩
 ·let⟨v,q⟩:=I.cell x c e;show absurd (zr q.lt (by rw[z];show hb)) (WT _)
 ·show absurd (zr (zi (I.pin p hp).1) (by rw[z];show hb)) (WT _)
structure Turn(P:ve)(w:u_)(K:y0)(tg:v_)(J:It)(fp:x_ r_)(it:r_)(tn:Nat->t_->Prop):Prop where
 mem:it∈fp
 obj:∀i h,tn i h->∀b∈fp,∃o,h.get? b=some o/\∀v,o.data≠.cell v
 keep:∀i h h',tn i h->(∀b∈fp,∀o,h.get? b=some o->h'.get? b=some o)->tn i h'
 item:∀(X:Cx),X.prog=P->X.w=w->X.K=K->X.calm=true->∀(i:Nat)(FR:gV 0)(s:q_)(σ:St)(H:Hp)(E:f_ 0),Inv X FR σ H s->(∀b∈fp,Fk X FR H b)->tn i s.heap->J.go i H->
  wpAny (model P w) X.A (pyNext (.ref it)) (λr s1=>∃u,r=some u/\
   wpAny (model P w) X.A (letOwnedTupleGo tg (.ref it) u) (λ_ s2=>∃x H',Inv X FR σ H' s2/\RelV x u/\J.yld i H x H'/\tn (i+1) s2.heap/\∀b∈fp,H' b=none) E s1) E s
 done:∀(X:Cx),X.prog=P->X.w=w->X.K=K->X.calm=true->∀(i:Nat)(FR:gV 0)(s:q_)(σ:St)(H:Hp)(E:f_ 0),Inv X FR σ H s->(∀b∈fp,Fk X FR H b)->tn i s.heap->J.stop i H->
  wpAny (model P w) X.A (pyNext (.ref it)) (λr s1=>r=none/\Inv X FR σ H s1) E s
 self:∀(A:td)(i:Nat)(s:q_)(Q:f_ 0)(E:f_ 0),tn i s.heap->Q (.ref it) s->wpAny (model P w) A (pyIter (.ref it)) Q E s
abbrev TI:=St->Hp->(It->Hp->Prop)->Prop
def PIE(X:Cx)(FR:gV 0)(σ:St)(tg:v_)(R:It->Hp->Prop)(qh:qe)(s2:q_):Prop:=
 ∃(it:r_)(fp:x_ r_)(tn:Nat->t_->Prop)(J:It)(H':Hp),qh=.ref it/\h_ H' s2/\Turn X.prog X.w X.K tg J fp it tn/\tn 0 s2.heap/\(∀b∈fp,Fk X FR H' b)/\R J H'
def PI(X:Cx)(tg iter:v_)(wi:TI):Prop:=
 ∀(FR:gV 0)(s:q_)(σ:St)(H:Hp)(R:It->Hp->Prop),N_ s->wi σ H R->
  wpAny (g_ X) X.A (eval iter X.env) (λv s1=>wpAny (g_ X) X.A (pyIter v) (PIE X FR σ tg R) X.xe s1) X.xe s
theorem Fm{o:Obj}{n:String}{vs:Y6 0}{Q:jn Unit}(ho:s.heap.get? it=a_ o)(hc:o.cls=.type n)(hd:o.data=.fields vs)(hn:["enumerate","zip","dict_itemiterator","dict_reverseitemiterator","odict_iterator","itertools.zip_longest","itertools.pairwise"].contains n=false)(hQ:Q () s):wpAny M A (letOwnedTupleGo tg (.ref it) u) Q E s:=by
 unfold letOwnedTupleGo;cases tg <;> first
  |exact yz hQ
  | (cases u <;> first
    |exact yz hQ
    | (refine yx (wpAny_load ho ?_)
       rw[hc,hd]
       change wpAny M A (if(["enumerate","zip","dict_itemiterator","dict_reverseitemiterator","odict_iterator","itertools.zip_longest","itertools.pairwise"].contains n&&vs[0]? == a_ (rawInt _))=true then _ else _) Q E s
       rw[if_neg (by intro h;rw[hn,Bool.false_and]at h;cases h)];show yz hQ))
def Itl(K:y0)(a:r_):It:=⟨λi H=>∃xs x,ZI a xs/\xs[i]?=a_ x,λi H x H'=>H'=H/\∀xs,ZI a xs->xs[i]?=a_ x,λi H=>∃xs,ZI a xs/\xs.length<=i⟩
def Itt(K:y0)(a:r_):It:=⟨λi H=>∃xs x,ZD a xs/\xs[i]?=a_ x,λi H x H'=>H'=H/\∀xs,ZD a xs->xs[i]?=a_ x,λi H=>∃xs,ZD a xs/\xs.length<=i⟩
def Itr(lo:Int)(n:Nat):It:=⟨λi _=>i<n,λi H x H'=>H'=H/\x=.int (lo+i),λi _=>n<=i⟩
theorem CN(a it:r_):Turn P w K tg (Itl K a) [it] it (λi h=>h.IsListIter it a i) where
 mem:=by simp
 obj:=λi h st b hb=>by
  let e:b=it:=by simpa using hb
  subst e;let⟨o,e,c,d⟩:=st;show⟨o,e,λv z=>by rw[d]at z;cases z⟩
 keep:=λi h h' st k=>st.at λo e=>k it (by simp) o e
 item:=by
  intro X hP hw hK hc i FR s σ H E I hf st hg;subst hP hw hK;let⟨xs,x,hq,hx⟩:=hg;let⟨its,rv,p,hz⟩:=I.list hq;let⟨u,hu,ru⟩:=rv.get hx;let⟨f0,f1,f2,f3,f4,f5⟩:=hf it (by simp);refine wpAny_pyNext_list_item st p.isList (x:=u) (ke hu) λh' bf sb=>?_;let I1:N_ {s with heap:=h'}:=I.turned (t':=s.toks) (λb o hb e=>(sb.2 b hb).trans e) f0 f1 f3 f4 f5;let⟨o,e,c,d⟩:=id bf;show⟨u,rfl,Fm (s:={s with heap:=h'}) e c d nofun ⟨x,H,I1,ru,⟨rfl,λys hy=>by rw[I.list_inj hy hq];show hx⟩,bf,λb hb=>(hf b hb).1⟩⟩
 done:=by intro X hP hw hK hc i FR s σ H E I hf st hg;subst hP hw hK;let⟨xs,hq,hx⟩:=hg;let⟨its,rv,p,hz⟩:=I.list hq;let⟨f0,f1,f2,f3,f4,f5⟩:=hf it (by simp);let hl:=rv.length;show wpAny_pyNext_list_end (I.ok.hd hc) st p.isList (by simp;omega) λh' eb=>⟨rfl,I.turned (t':=s.toks) (λb o hb e=>eb b o hb e) f0 f1 f3 f4 f5⟩
 self:=λ_ _ _ _ _ st h=>wpAny_pyIter_listiter st h
theorem Hf(a it:r_):Turn P w K tg (Itt K a) [it] it (λi h=>h.IsTupleIter it a i) where
 mem:=by simp
 obj:=λi h st b hb=>by
  let e:b=it:=by simpa using hb
  subst e;let⟨o,e,c,d⟩:=st;show⟨o,e,λv z=>by rw[d]at z;cases z⟩
 keep:=λi h h' st k=>st.at λo e=>k it (by simp) o e
 item:=by
  intro X hP hw hK hc i FR s σ H E I hf st hg;subst hP hw hK;let⟨xs,x,hq,hx⟩:=hg;let⟨its,rv,p,hz⟩:=I.tuple hq;let⟨u,hu,ru⟩:=rv.get hx;let⟨f0,f1,f2,f3,f4,f5⟩:=hf it (by simp);refine wpAny_pyNext_tuple_item st (show s.heap.IsTuple a its.toArray from p) (x:=u) (ke hu) λh' bf sb=>?_
  let I1:N_ {s with heap:=h'}:=I.turned (t':=s.toks) (λb o hb e=>(sb.2 b hb).trans e) f0 f1 f3 f4 f5;let⟨o,e,c,d⟩:=id bf;show⟨u,rfl,Fm (s:={s with heap:=h'}) e c d nofun ⟨x,H,I1,ru,⟨rfl,λys hy=>by rw[I.tuple_inj hy hq];show hx⟩,bf,λb hb=>(hf b hb).1⟩⟩
 done:=by intro X hP hw hK hc i FR s σ H E I hf st hg;subst hP hw hK;let⟨xs,hq,hx⟩:=hg;let⟨its,rv,p,hz⟩:=I.tuple hq;let⟨f0,f1,f2,f3,f4,f5⟩:=hf it (by simp);let hl:=rv.length;show wpAny_pyNext_tuple_end (I.ok.hd hc) st (show s.heap.IsTuple a its.toArray from p) (by simp;omega) λh' eb=>⟨rfl,I.turned (t':=s.toks) (λb o hb e=>eb b o hb e) f0 f1 f3 f4 f5⟩
 self:=λ_ _ _ _ _ st h=>wpAny_pyIter_tupleiter st h
theorem Hg(it:r_)(lo:Int)(n:Nat):Turn P w K tg (Itr lo n) [it] it (λi h=>IsRangeIter h it (lo+(i:Nat)*1) ((n:Int)-(i:Nat)) 1) where
 mem:=by simp
 obj:=λi h st b hb=>by
  let e:b=it:=by simpa using hb
  subst e;show⟨_,st,λv z=>by let z':Data.fields _=Data.cell v:=z;cases z'⟩
 keep:=λi h h' st k=>k it (by simp) _ st
 item:=by
  intro X hP hw hK hc i FR s σ H E I hf st hg;subst hP hw hK;let⟨f0,f1,f2,f3,f4,f5⟩:=hf it (by simp);let W:=Walks.range (prog:=X.prog) (w:=X.w) (I.ok.hd hc) it lo 1 n;refine W.item i s _ _ hg st λv h' tk hv bf kk=>?_;let⟨t,rfl⟩:=hv;let I1:N_ {s with heap:=h',toks:=tk}:=I.turned (λb o hb e=>kk b o (ke hb) e) f0 f1 f3 f4 f5;refine⟨_,rfl,Fm (s:={s with heap:=h',toks:=tk}) (n:="range_iterator") bf rfl rfl nofun ⟨.int (lo+i),H,I1,⟨t,?_⟩,⟨rfl,rfl⟩,bf,λb hb=>(hf b hb).1⟩⟩;rw[Int.mul_one]
 done:=by intro X hP hw hK hc i FR s σ H E I hf st hg;subst hP hw hK;let⟨f0,f1,f2,f3,f4,f5⟩:=hf it (by simp);show wpAny_pyNext_range_end (I.ok.hd hc) st (by have:n<=i:=hg;omega) λh' eb=>⟨rfl,I.turned (t':=s.toks) (λb o hb e=>eb b o hb e) f0 f1 f3 f4 f5⟩
 self:=λ_ _ _ _ _ st h=>wpAny_pyIter_rangeiter st h
variable{R:It->Hp->Prop}
theorem Ll{lo hi:Int}{t u v:Tok}{tk:Nat}(I:N_ s)(h1:-(2 ^ 62)<=lo)(h2:lo<2 ^ 62)(h3:-(2 ^ 62)<=hi)(h4:hi<2 ^ 62)(q:R (Itr lo (hi-lo).toNat) H):wpAny (g_ X) X.A (pyIter (.ref (e_ s))) (PIE X FR σ tg R) E {s with heap:=s.heap.push {cls:=.type "range",data:=.fields #[.int lo t,.int hi u,.int 1 v]},toks:=tk}:=by
 refine wpAny_pyIter_range (IsRange.new ..) (small_one h1 h2 h3 h4) ?_;let I1:N_ {s with heap:=s.heap.push {cls:=.type "range",data:=.fields #[.int lo t,.int hi u,.int 1 v]},toks:=tk}:=I.kept λb o e=>y6 _ e;refine⟨(s.heap.push {cls:=.type "range",data:=.fields #[.int lo t,.int hi u,.int 1 v]}).objs.size,[(s.heap.push {cls:=.type "range",data:=.fields #[.int lo t,.int hi u,.int 1 v]}).objs.size],_,_,H,rfl,
  I1.kept (t':=tk) λb o e=>y6 _ e,Hg _ lo (hi-lo).toNat,?_,λb hb=>?_,q⟩
 ·let e1:lo+((0:Nat):Int)*1=lo:=by simp
  let e2:(((hi-lo).toNat:Nat):Int)-((0:Nat):Int)=Builtin.Range.rangeSize lo hi 1:=by rw[rangeSize_one];split <;> omega
  change IsRangeIter _ _ (lo+((0:Nat):Int)*1) ((((hi-lo).toNat:Nat):Int)-((0:Nat):Int)) 1
  rw[e1,e2];show ZL 0
 ·let e:b=(s.heap.push {cls:=.type "range",data:=.fields #[.int lo t,.int hi u,.int 1 v]}).objs.size:=by simpa using hb
  subst e;show I1.fpOk (zd _) (I1.hok.fresh (zd _))
def V8(wi:TI)(g:TG)(tb:TS):TS:=λD σ H=>wi σ H λJ H1=>∃W:Nat->Nat->St->Hp->Prop,(∃m,W 0 m σ H1)/\∀i m σ H,W i m σ H->
 (J.stop i H/\D.nx σ H)\/(J.go i H/\∃N:St->Hp->Prop,(∀σ' H',N σ' H'->∃m',m'<m/\W (i+1) m' σ' H')/\∀x H',J.yld i H x H'->g x σ H' λσ2 H2=>tb { D with nx:=N,ct:=N,bk:=D.nx} σ2 H2)
def AW(fp:x_ r_)(h:t_):gV 0:=fp.filterMap λb=>(h.get? b).map λo=>(b,o)
variable{fp:x_ r_}
theorem nU{h:t_}{b:r_}{o:Obj}(hb:b∈fp)(e:h.get? b=a_ o):(b,o)∈AW fp h:=List.mem_filterMap.mpr ⟨b,hb,by rw[e];rfl⟩
theorem JW{h:t_}{p:r_×Obj}(hp:p∈AW fp h):p.1∈fp/\h.get? p.1=a_ p.2:=by
 let⟨b,hb,e⟩:=List.mem_filterMap.mp hp;cases q:h.get? b with
 |none=>rw[q]at e;cases e
 |some o=>rw[q]at e;let e':(b,o)=p:=zl e;subst e';show⟨hb,q⟩
theorem Inv.pinned(I:N_ s)(hf:∀b∈fp,Fk X FR H b)(ho:∀b∈fp,∃o,Y1 0=a_ o/\∀v,o.data≠.cell v):Inv X (FR++AW fp s.heap) σ H s:=I.pins_of λp hp=>(Wc.mp hp).elim (λz=>I.pin p (ze _ z)) λz=>by let⟨hb,e⟩:=JW z;let⟨f0,f1,f2,_⟩:=hf p.1 hb;let⟨o,e',d⟩:=ho p.1 hb;rw[e]at e';cases e';show⟨e,f0,f1,f2,d⟩
theorem Inv.unpinned{pl:gV 0}(I:Inv X (FR++pl) σ H s):N_ s:=I.pins_of λp hp=>I.pin p (ze _ (WR _ hp))
variable{iter:v_}
theorem R7{wi:TI}{g:TG}{tb:TS}(hp:PassesOwn (g_ X) X.A X.env X.xe)(hc:X.calm=true)(hi:PI X tg iter wi)(hg:PG X tg g)(hb:PSs X body tb)(hs:∀x,Xs iter X.env x=pure x:=by intro _;rfl):PS X (.For tg iter body [] pos) (V8 wi g tb):=by
 intro FR s σ H D I h;refine wpAny_For (thn (hi FR s σ H _ I h) λv s1 h1=>thn h1 λqh s2 h2=>?_) hs;let⟨it,fp,tn,J,H2,e,I2,T,nu,f2,W,⟨m0,w0⟩,turn⟩:=h2;subst e
 -- what stays true of the iterator's objects through the loop
 let iq:∀{H':Hp},(∀b∈fp,H' b=b_)->∀b∈fp,Fk X FR H' b:=λhn b hb=>⟨hn b hb,(f2 b hb).2⟩;refine codeAny_forLoop_any (λn s'=>∃i σ' H',ZU s'/\tn i s'.heap/\(∀b∈fp,H' b=b_)/\W i n σ' H') ?_ m0 ⟨0,σ,H2,I2,nu,λb hb=>(f2 b hb).1,w0⟩;rintro n s3 ⟨i,σ3,H3,I3,lj,fr3,w3⟩;rcases turn i n σ3 H3 w3 with⟨stop,qn⟩|⟨go,N,hN,step⟩
 ·refine XU hp (thn (T.done X rfl rfl rfl hc i FR s3 σ3 H3 X.xe I3 (iq fr3) lj stop) λr s4 ⟨hr,I4⟩=>?_);subst hr;show wpAny_execs_nil ⟨σ3,H3,I4,qn⟩
 ·refine XU hp (thn (T.item X rfl rfl rfl hc i FR s3 σ3 H3 X.xe I3 (iq fr3) lj go) λr s4 ⟨u,hr,h4⟩=>?_);subst hr;refine XU hp (thn h4 λ_ s5 hz=>?_);let⟨x,H5,I5,r5,y5,j0,m8⟩:=hz;let vy:=I5.pinned (iq m8) (T.obj _ _ j0);refine XU hp (thn (hg _ s5 σ3 H5 x u _ vy r5 (step x H5 y5)) λ_ s6 ⟨σ6,H6,I6,q6⟩=>?_);refine XU hp (thn (hb _ s6 σ6 H6 _ I6 q6) λf s7 q7=>?_);let again:∀{σ7:St}{H7:Hp},Inv X (FR++AW fp s5.heap) σ7 H7 s7->N σ7 H7->∃m,m<n/\∃i σ' H',ZU s7/\tn i s7.heap/\(∀b∈fp,H' b=b_)/\W i m σ' H':=λ{σ7 H7} I7 n7=>by let⟨m',hm,w7⟩:=hN σ7 H7 n7;refine⟨m',hm,i+1,σ7,H7,I7.unpinned,T.keep _ _ _ j0 λb hb o e=>(I7.pin (b,o) (ze _ (ze _ (nU hb e)))).1,λb hb=>?_,w7⟩;let⟨o,e,d⟩:=T.obj _ _ j0 b hb;show(I7.pin (b,o) (ze _ (ze _ (nU hb e)))).2.1
  cases f with
  |next=>let⟨σ7,H7,I7,n7⟩:=q7;show again I7 n7
  |cont=>let⟨σ7,H7,I7,n7⟩:=q7;show again I7 n7
  |brk=>let⟨σ7,H7,I7,q7⟩:=q7;show⟨σ7,H7,I7.unpinned,q7⟩
  |ret v=>let⟨x7,σ7,H7,I7,r7,q7⟩:=q7;show⟨x7,σ7,H7,I7.unpinned,r7,q7⟩
abbrev R2:=V->V->Hp->VK->Prop
def OpR(X:Cx)(f:qe->qe->Sem qe)(r:R2):Prop:=
 ∀(FR:gV 0)(s:q_)(σ:St)(H:Hp)(x y:V)(v u:qe)(Q:VK),N_ s->Zr v->Z4 u->r x y H Q->
  wpAny (g_ X) X.A (f v u) (Y2 Q) X.xe s
def eL(X:Cx)(f:qe)(r:x_ V->Hp->VK->Prop):Prop:=
 ∀(FR:gV 0)(s:q_)(σ:St)(H:Hp)(xs:x_ V)(us:ZE 0)(Q:VK),N_ s->aS xs us->r xs H Q->
  wpAny (g_ X) X.A (call f us) (Y2 Q) X.xe s
def V9(X:Cx)(r:V->Hp->(Bool->Hp->Prop)->Prop):Prop:=
 ∀(FR:gV 0)(s:q_)(σ:St)(H:Hp)(x:V)(v:qe)(Q:Bool->Hp->Prop),N_ s->Zr v->r x H Q->
  wpAny (g_ X) X.A (truthy v) (TP X FR σ Q) X.xe s
def tOp(r:R2)(ta tb:TE):TE:=λσ H Q=>ta σ H λx H1=>tb σ H1 λy H2=>r x y H2 Q
def rI(C:Int->Int->Prop)(g:Int->Int->V):R2:=λx y H Q=>∃i j,x=.int i/\y=.int j/\C i j/\Q (g i j) H
def rI0(g:Int->Int->V):R2:=λx y H Q=>∃i j,x=.int i/\y=.int j/\Q (g i j) H
variable{f:qe->qe->Sem qe}{g:Int->Int->Int}
section
variable{a b:v_}{tb tc:TE}
theorem R8(ha:Zx a ta)(hb:Zx b tb){R:V->V->Hp->Prop}(I:N_ s)(h:ta σ H λx H1=>tb σ H1 λy H2=>R x y H2)(hf:∀v u s2 x y H2,h_ H2 s2->Zr v->Z4 u->R x y H2->wpAny (g_ X) X.A (f v u) Q X.xe s2):
  wpAny (g_ X) X.A (eval a X.env) (λv s₁=>wpAny (g_ X) X.A (eval b X.env) (λu s₂=>wpAny (g_ X) X.A (f v u) Q X.xe s₂) X.xe s₁) X.xe s:=by
 refine thn (ha FR s σ H _ I h) λv s1 hz=>?_;let⟨x,H1,I1,r1,q1⟩:=hz;refine thn (hb FR s1 σ H1 _ I1 q1) λu s2 hz=>?_;let⟨y,H2,I2,r2,q2⟩:=hz;show hf v u s2 x y H2 I2 r1 r2 q2
theorem Tj{op:Operator}{r:R2}(ho:Y5 (WU op) r)(ha:Zx a ta)(hb:Zx b tb):Zx (.BinOp a op b pos) (tOp r ta tb):=by intro FR s σ H Q I h;show wpAny_BinOp (R8 ha hb I h λv u s2 x y H2 I2 rx ry q=>ho FR s2 σ H2 x y v u Q I2 rx ry q)
theorem opI{C:Int->Int->Prop}(rule:∀(i j:Int)(t u:Tok)(s:q_)(Q:f_ 0)(E:f_ 0),C i j->Q (.int (g i j) s.toks) { s with toks:=s.toks+1}->wpAny (g_ X) X.A (f (.int i t) (.int j u)) Q E s):
  Y5 f (rI C λi j=>.int (g i j)):=by
 intro FR s σ H x y v u Q I rx ry h;let⟨i,j,rfl,rfl,hc,q⟩:=h;let⟨t,rfl⟩:=rx;let⟨t',rfl⟩:=ry;show rule i j t t' s _ _ hc ⟨.int (g i j),H,Zy 0,⟨_,rfl⟩,q⟩
theorem Tn(rule:∀(i j:Int)(t u:Tok)(s:q_)(Q:f_ 0)(E:f_ 0),Q (.int (g i j) s.toks) { s with toks:=s.toks+1}->wpAny (g_ X) X.A (f (.int i t) (.int j u)) Q E s):
  Y5 f (rI0 λi j=>.int (g i j)):=by
 intro FR s σ H x y v u Q I rx ry h;let⟨i,j,rfl,rfl,q⟩:=h;let⟨t,rfl⟩:=rx;let⟨t',rfl⟩:=ry;show rule i j t t' s _ _ ⟨.int (g i j),H,Zy 0,⟨_,rfl⟩,q⟩
theorem R9{g:Int->Int->Bool}(rule:∀(i j:Int)(t u:Tok)(s:q_)(Q:f_ 0)(E:f_ 0),Q (.bool (g i j)) s->wpAny (g_ X) X.A (f (.int i t) (.int j u)) Q E s):
  Y5 f (rI0 λi j=>.bl (g i j)):=by
 intro FR s σ H x y v u Q I rx ry h;let⟨i,j,rfl,rfl,q⟩:=h;let⟨t,rfl⟩:=rx;let⟨t',rfl⟩:=ry;show rule i j t t' s _ _ ⟨.bl (g i j),H,I,rfl,q⟩
def Lm(i j:Int):Prop:=0<j/\j<1073741824
def JX(i j:Int):Prop:=0<=j/\j<=1000000/\i.natAbs<2 ^ 64
def Fo(i j:Int):Prop:=(-(2 ^ 64)<i/\i<2 ^ 64)\/(-(2 ^ 64)<j/\j<2 ^ 64)
theorem Fo.ok{i j:Int}(h:Fo i j):IntMulOk i j:=by
 rcases h with⟨h1,h2⟩|⟨h1,h2⟩
 ·show .of_left (intBits_le_64 h1 h2)
 ·show .of_right (intBits_le_64 h1 h2)
theorem R':Y5 (WU .Add) (rI0 λi j=>.int (i+j)):=Tn λ_ _ _ _ _ _ _ q=>add_int q
theorem Ra:Y5 (WU .Sub) (rI0 λi j=>.int (i-j)):=Tn λ_ _ _ _ _ _ _ q=>sub_int q
theorem Rb:Y5 (WU .Mult) (rI Fo λi j=>.int (i*j)):=opI λ_ _ _ _ _ _ _ hc q=>mul_int q hc.ok
theorem Oc:Y5 (WU .FloorDiv) (rI Lm λi j=>.int (i/j)):=opI λi j _ _ _ _ _ hc q=>by let h1:(0:Int)<j:=hc.1;let h2:j<1073741824:=hc.2;show floordiv_int ⋯ (by rw[Int.fdiv_eq_ediv_of_nonneg i ⋯];show q) (.inl (PyProof.noPylong_small ⋯))
theorem Rc:Y5 (WU .Mod) (rI (λ_ j=>0<j) λi j=>.int (i%j)):=opI λi j _ _ _ _ _ hc q=>by let h1:(0:Int)<j:=hc;show mod_int' ⋯ (by rw[Int.fmod_eq_emod_of_nonneg i ⋯];show q)
theorem Re:Y5 (WU .Pow) (rI JX λi j=>.int (i ^ j.toNat)):=opI λ_ _ _ _ _ _ _ hc q=>pow_int_small hc.1 hc.2.1 hc.2.2 q
end
variable{op:CmpOp}{ir:CmpOp}{its:ZE 0}
section
variable{a b:v_}{tb tc:TE}
theorem DJ{Q:VK}{k k':Bool}(I:N_ s)(q:Q (.bl k) H)(e:k=k'):Y2 Q (.bool k') s:=by subst e;show⟨.bl k,H,I,rfl,q⟩
theorem To:Y5 (VX .Lt) (rI0 λi j=>.bl (decide (i<j))):=R9 λ_ _ _ _ _ _ _ q=>lt_int q
theorem Tp:Y5 (VX .LtE) (rI0 λi j=>.bl (decide (i<=j))):=R9 λ_ _ _ _ _ _ _ q=>le_int q
theorem Tq:Y5 (VX .Gt) (rI0 λi j=>.bl (decide (j<i))):=R9 λ_ _ _ _ _ _ _ q=>gt_int q
theorem JY:Y5 (VX .Lt) (λx y H Q=>∃i j,x=.str i/\y=.str j/\Q (.bl (decide (i.cps.toList<j.cps.toList))) H):=by intro FR s σ H x y v u Q I rx ry h;let⟨i,j,rfl,rfl,q⟩:=h;let⟨t,rfl⟩:=rx;let⟨t',rfl⟩:=ry;show lt_str (DJ I q rfl)
theorem Od:Y5 (VX .IsNot) (λx y H Q=>y=.non/\Q (.bl (!decide (x=.non))) H):=by
 intro FR s σ H x y v u Q I rx ry h;let⟨rfl,q⟩:=h;cases ry
 refine isnot_none_gen (DJ I q ?_);cases x <;> first
  |(cases rx;rfl)
  |(let⟨t,rfl⟩:=rx;rfl)
theorem OpR.or{r r':R2}(h:Y5 f r)(h':Y5 f r'):Y5 f (λx y H Q=>r x y H Q\/r' x y H Q):=by
 intro FR s σ H x y v u Q I rx ry q;rcases q with q|q
 ·show Zd x y v u Q I rx ry q
 ·show h' FR s σ H x y v u Q I rx ry q
theorem Ln(b:v_)(h:op≠.In:=by decide)(h2:op≠.NotIn:=by decide):behindInMarks op b=false:=by
 let e1:(op == CmpOp.In)=false:=by cases op <;> first|rfl|exact absurd rfl h
 let e2:(op == CmpOp.NotIn)=false:=by cases op <;> first|rfl|exact absurd rfl h2
 cases b <;> simp[behindInMarks,e1,e2]
theorem Oe{r:R2}(ho:Y5 (VX op) r)(ha:Zx a ta)(hb:Zx b tb)(hm:behindInMarks op b=false):Zx (.Compare a [op] [b] pos) (tOp r ta tb):=by intro FR s σ H Q I h;show wpAny_Compare1 (R8 ha hb I h λv u s2 x y H2 I2 rx ry q=>ho FR s2 σ H2 x y v u Q I2 rx ry q) hm
def Tr(t:TE):TT:=λσ H Q=>t σ H λx H'=>∃k,x=.bl k/\Q k H'
def Lo(r r':R2)(ta tb tc:TE):TE:=λσ H Q=>ta σ H λx H1=>tb σ H1 λy H2=>r x y H2 λz H3=>∃k,z=.bl k/\
 (if k=true then tc σ H3 λw' H4=>r' y w' H4 Q else Q (.bl false) H3)
theorem Lp{r r':R2}(ho:Y5 (VX op) r)(br:Y5 (VX ir) r')(ha:Zx a ta)(hb:Zx b tb)(hc:Zx c tc)(hm:lastMarks [op,ir] [b,c]=false:=by with_unfolding_all rfl):PT X (.Compare a [op,ir] [b,c] pos) (Tr (Lo r r' ta tb tc)):=by
 intro FR s σ H Q I h;refine isTrue_chain (thn (ha FR s σ H _ I h) λv s1 ⟨x,H1,I1,r1,q1⟩=>test_link (thn (hb FR s1 σ H1 _ I1 q1) λu s2 ⟨y,H2,I2,r2,q2⟩=>thn (ho FR s2 σ H2 x y v u _ I2 r1 r2 q2) λd s3 ⟨z,H3,I3,r3,k,e,q3⟩=>?_)) hm;subst e;cases r3
 refine XW ?_;cases k with
 |false=>
  let⟨k',e',q'⟩:=q3;cases e'
  show ite_ff ⟨H3,I3,q'⟩
 |true=>
  refine ite_tt (test_last (thn (hc FR s3 σ H3 _ I3 q3) λw' s4 ⟨z',H4,I4,r4,q4⟩=>thn (br FR s4 σ H4 y z' u w' _ I4 r2 r4 q4) λd' s5 hz=>?_));let⟨z2,H5,I5,r5,k2,e2,q5⟩:=hz;subst e2;cases r5
  show XW ⟨H5,I5,q5⟩
def Hh(K:y0)(x:V)(H:Hp)(k:Bool):Prop:=
 match x with
 |.non=>k=false
 |.bl b=>k=b
 |.int i=>k=(i != 0)
 |.str y=>y.length<=zf/\k=((y.length:Int) != 0)
 |.byt y=>y.size<=zf/\k=((y.size:Int) != 0)
 |.ref p=>(∃xs,ZI p xs/\k=!xs.isEmpty)\/(∃xs,ZD p xs/\k=!xs.isEmpty)\/∃kvs,H p=a_ (.dK kvs)/\k=!kvs.isEmpty
 |_=>False
theorem Hi{κ:Type}{kvs:x_ (κ×V)}{vs:x_ (κ×qe)}(r:KV kvs vs):(!vs.isEmpty)=!kvs.isEmpty:=by cases r <;> rfl
theorem AX{xs:x_ V}(r:aS xs its):(!its.toArray.isEmpty)=!xs.isEmpty:=by cases r <;> simp
theorem sU:(zf:Nat)<2 ^ 63:=by rw[Wm];decide
theorem Lq:V9 X (λx H Q=>∃k,Hh X.K x H k/\Q k H):=by
 intro FR s σ H x v Q I rx h;let⟨k,e,q⟩:=h;let hl:=sU;let hs:zf=16777216:=Wm;cases x with
 |non=>
  cases rx
  let e':k=false:=e;subst e';show truthy_none ⟨H,I,q⟩
 |bl b=>
  cases rx
  let e':k=b:=e;subst e';show XW ⟨H,I,q⟩
 |int i=>let⟨t,rfl⟩:=rx;let e':k=(i != 0):=e;subst e';show PySem.P.truthy_int ⟨H,I,q⟩
 |str y=>let⟨t,rfl⟩:=rx;obtain⟨hy,e'⟩:y.length<=zf/\k=((y.length:Int) != 0):=e;subst e';show PySem.P.truthy_str ⋯ ⟨H,Zy 0,q⟩
 |byt y=>let⟨t,rfl⟩:=rx;obtain⟨hy,e'⟩:y.size<=zf/\k=((y.size:Int) != 0):=e;subst e';show PySem.W.truthy_bytes ⋯ ⟨H,Zy 0,q⟩
 |ref p=>
  cases rx
  let e':(∃xs,SqL X.K H p xs/\k=!xs.isEmpty)\/(∃xs,SqT X.K H p xs/\k=!xs.isEmpty)\/∃kvs,H p=a_ (.dK kvs)/\k=!kvs.isEmpty:=e;rcases e' with⟨xs,hx,e'⟩|⟨xs,hx,e'⟩|⟨kvs,hx,e'⟩
  ·subst e';let⟨its,r,pl,hz⟩:=I.list hx;let hlen:=r.length;show wpAny_truthy_list pl.isList (by simp only[zb];omega) ⟨H,Zy 0,by rw[AX r];show q⟩
  ·subst e';let⟨its,r,pl,hz⟩:=I.tuple hx;let hlen:=r.length;show truthy_tuple pl (by simp only[zb];omega) ⟨H,Zy 0,by rw[AX r];show q⟩
  ·subst e';obtain⟨hz,hS,vs,r,m⟩:kvs.length<=zf/\(p == WL)=false/\∃vs,KV kvs vs/\s.heap.DictOf (cJ X.prog X.w) p vs:=I.hok p _ hx;let hlen:kvs.length=vs.length:=Wt r;show wpAny_truthy_dict hS m ⋯ ⟨H,Zy 0,by rw[Hi r];show q⟩
 |_=>exact(show False from e).elim
theorem Lr(ha:Zx a ta)(he:∀whole,isTrue a X.env whole=(do let v <-whole;standAt a.pos;holding [v] (truthy v))):
  PT X a (λσ H Q=>ta σ H λx H'=>∃k,Hh X.K x H' k/\Q k H'):=by
 intro FR s σ H Q I h
 exact isTrue_plain (thn (ha FR s σ H _ I h) λv s1 ⟨x,H1,I1,r1,q1⟩=>Lq FR s1 σ H1 x v Q I1 r1 q1) (he _)
theorem Hj:Y5 (WU .Add) (λx y H Q=>∃i j,x=.str i/\y=.str j/\i.length+j.length<=zf/\Q (.str (i++j)) H):=by intro FR s σ H x y v u Q I rx ry h;let⟨i,j,rfl,rfl,hz,q⟩:=h;let⟨t,rfl⟩:=rx;let⟨t',rfl⟩:=ry;show add_str (λt' tk=>⟨.str (i++j),H,Zy 0,⟨_,rfl⟩,q⟩) hz
theorem vals1{x:V}(r:aS [x] us):∃u,us=[u]/\Zr u:=by
 cases r with
 |cons r1 r2=>cases r2;show⟨_,rfl,r1⟩
theorem vals2{x:V}(r:aS [x,y] us):∃u w',us=[u,w']/\Zr u/\Z4 w':=by
 cases r with
 |cons r1 r2=>
  cases r2 with
  |cons r3 r4=>cases r4;show⟨_,_,rfl,r1,r3⟩
def V'(K:y0)(x:V)(H:Hp)(n:Nat):Prop:=
 match x with
 |.str y=>y.length<=zf/\n=y.length
 |.byt y=>y.size<=zf/\n=y.size
 |.ref p=>(∃xs,ZI p xs/\n=xs.length)\/∃xs,ZD p xs/\n=xs.length
 |_=>False
theorem Ls:eL X (.builtin "len") (λxs H Q=>∃x n,xs=[x]/\V' X.K x H n/\Q (.int n) H):=by
 intro FR s σ H xs us Q I r h;let⟨x,n,rfl,e,q⟩:=h;let⟨u,rfl,rx⟩:=vals1 r;let hl:=sU;let hs:zf=16777216:=Wm;cases x with
 |str y=>let⟨t,rfl⟩:=rx;obtain⟨hy,e'⟩:y.length<=zf/\n=y.length:=e;subst e';show len_str ⋯ ⟨.int _,H,Zy 0,⟨_,rfl⟩,q⟩
 |byt y=>let⟨t,rfl⟩:=rx;obtain⟨hy,e'⟩:y.size<=zf/\n=y.size:=e;subst e';show PySem.W.len_bytes ⋯ ⟨.int _,H,Zy 0,⟨_,rfl⟩,q⟩
 |ref p=>
  cases rx
  let e':(∃xs,SqL X.K H p xs/\n=xs.length)\/∃xs,SqT X.K H p xs/\n=xs.length:=e;rcases e' with⟨xs,hx,e'⟩|⟨xs,hx,e'⟩
  ·subst e';let⟨its,r',pl,hz⟩:=I.list hx;let hlen:=r'.length;show Calls.call_len_list pl.isList (by simp only[zb];omega) ⟨.int xs.length,H,Zy 0,⟨_,by simp only[zb];rw[hlen]⟩,q⟩
  ·subst e';let⟨its,r',pl,hz⟩:=I.tuple hx;let hlen:=r'.length;show len_tuple pl (by simp only[zb];omega) ⟨.int xs.length,H,Zy 0,⟨_,by simp only[zb];rw[hlen]⟩,q⟩
 |_=>exact(show False from e).elim
end
structure Hk(h:t_)(x dx C:r_)(mA:m_ 0):Prop where
 obj:h.get? x=some (Xx C dx)
 ns:h.Ns1 dx mA
 ne:dx≠x
variable{dx:r_}{mA:m_ 0}
theorem JZ{h:t_}(n:h.Ns1 dx mA):∃od,h.get? dx=a_ od/\∀name,PySem.W.lookIn name od=a_ (mA name):=by
 let⟨o,es,ep,ho,hd,hk,_,hm⟩:=n;refine⟨o,ho,λname=>?_⟩;let e:=hm name;unfold nsFind findBy at e;rw[<-Array.find?_toList]at e;unfold PySem.W.lookIn;rw[hd];dsimp only;split
 ·rename_i y q;rw[q]at e;show congrArg a_ e
 ·rename_i q;rw[q]at e;let a:es.toList.any (·.refKey)=false:=by rw[List.any_eq_false];intro y hy;let⟨z,t,ao⟩:=hk y (Array.mem_toList_iff.mp hy);simp[DictEntry.refKey,ao]
  let a':¬ es.toList.any (·.refKey)=true:=by rw[a];show zj
  rw[if_neg a'];show congrArg a_ e
theorem Hk.look{h:t_}{x C:r_}(I:Hk h x dx C mA):∃od,PySem.W.InstAt h x (Xx C dx) C (a_ od)/\∀name,PySem.W.lookIn name od=a_ (mA name):=
 let ⟨od,ho,hl⟩:=JZ I.ns
 ⟨od,⟨I.obj,rfl,rfl,ho⟩,hl⟩
variable{expr:Bool}{name:Str}{prog:ve}{kw:x_ (Str×qe)}
section
variable{x C f:r_}{v:qe}
theorem get_map(X:K.In s.heap)(I:Hk s.heap x dx C mA)(hg:XC K C name=true)(hh:XX K C=true)(ha:zy K (.ref C) name=a_ b_)(hv:mA name=a_ v)(jt:PySem.W.handedIn v=true)(h:Q v { s with toks:=s.toks+1}):
  B_ (getAttr (.ref x) name expr) Q E s:=by
 let⟨od,J,hl⟩:=I.look;show PySem.W.get_value X J (PySem.W.plainGet_of hg).1 (PySem.W.findObj_own hh ha rfl (by rw[hl,hv])) jt h
theorem Lu{pl:Sem Bool}{Q:qe×ZE 0->q_->Prop}(X:K.In s.heap)(I:Hk s.heap x dx C mA)(hg:XC K C name=true)
  (hf:zy K (.ref C) name=a_ (c_ f)) (ht:PySem.W.isFn K (.ref f)=true) (hv:mA name=b_) (h:Q (.ref f,[.ref x]) s):
  B_ (getMethod (.ref x) name pl) Q E s:=by
 let⟨od,J,hl⟩:=I.look;show PySem.W.method_fn X J (PySem.W.plainGet_of hg).1 (PySem.W.plainGet_of hg).2 hf (beq_iff_eq.mp ht) (by change(PySem.W.lookIn name od).map (·.isSome)=a_ false;rw[hl,hv];rfl) h
theorem Of{ns:Zw 0}{Q:jn Unit}(X:K.In s.heap)(I:Hk s.heap x dx C mA)
  (hs:zy K (.ref C) "__setattr__" = a_ (a_ (.builtin "object.__setattr__"))) (hp:Yr K C=true) (ht:PySem.W.takerIn K C name=a_ b_) (hh:XX K C=true)
  (hw:PySem.Within mA ns) (hsz:ns.length<=zf)
  (h:∀h',Hk h' x dx C (λy=>if y=name then a_ v else mA y)->WX dx s.heap h'->Q () {s with heap:=h',toks:=s.toks+2}):
  B_ (setAttr (.ref x) name v) Q E s:=by
 let⟨od,J,hl⟩:=I.look;refine PySem.W.set_plain X J hs (PySem.W.osa_open (s:={ s with toks:=s.toks+1}) (r:=b_) X J hp ht λb=>?_);let⟨cd,hc,bq⟩:=PySem.W.any_some hh;let hx:s.heap.get? x=a_ ⟨.ref C,a_ dx,.plain,#[]⟩:=I.obj;refine yx (yz (yx (yx (wpAny_loadPart hx (yx (PySem.W.Looks.here (s:={ s with toks:=s.toks+1}) (PySem.W.looks_clsIn X hc) ?_))))));rw[bq];refine yz (a:=a_ dx) (yx (yz (yx ?_)));refine wpAny_nsSet1 (s:={ s with toks:=s.toks+1}) I.ns λh' ny uo=>?_;let⟨oD,esD,epD,vv,hdD,v7⟩:=ny.count (PySem.Within.cons name v hw);refine yx (wpAny_lookBehind vv (by rw[hdD];show pastItsLine_dict (Wu v7 (by rw[Wi];omega))) ?_);show yz (h _ ⟨(uo.2 _ (Yw I.ne)).trans I.obj,ny,I.ne⟩ uo)
theorem Lv{R:jn Result}{vs:ZE 0}(X:K.In s.heap)(hm:Yi K C=true)(hi:zy K (.ref C) "__init__" = a_ (c_ f))(hf:PySem.W.typeIn K (.ref f)=a_ (.type "function"))(h:codeAny (model prog w) (A.under (.builtin "type.__call__" ⟨.ref C::vs,kw⟩)) (.call (.ref f) ⟨.ref (s.heap.objs.size+1)::vs,kw⟩) (PySem.W.InitBack (s.heap.objs.size+1) R)
   {s with heap:=(s.heap.push WY).push (Xx C (e_ s))}):
  codeAny (model prog w) A (.call (.ref C) ⟨vs,kw⟩) R s:=by
 let⟨hh,g,d,t,os⟩:=s;show PySem.W.make_core (PySem.W.makes_of X hm) (PySem.W.looks_findIn X hi) (λself=>PySem.W.bind_fn X self hf) (.inl rfl) h
end
def mZ(f:Str)(v:V):x_ (Str×V)->x_ (Str×V)
 |[]=>[(f,v)]
 |(g,x)::r=>if g=f then(g,v)::r else(g,x)::mZ f v r
theorem zB(f g:Str)(v:V):∀fs:x_ (Str×V),(mZ f v fs).lookup g=if g=f then a_ v else fs.lookup g
 |[]=>by
  change YV g [(f,v)]=_
  by_cases h:g=f
  ·let hb:(g == f)=true:=beq_iff_eq.mpr h;simp only[YV,hb,if_pos h]
  ·let hb:(g == f)=false:=beq_eq_false_iff_ne.mpr h;simp only[YV,hb,if_neg h]
 |(k,x)::r=>by
  let ih:=zB f g v r;rw[show mZ f v ((k,x)::r)=(if k=f then(k,v)::r else(k,x)::mZ f v r) from rfl]
  by_cases hk:k=f
  ·rw[if_pos hk];by_cases h:g=k
   ·let hb:(g == k)=true:=beq_iff_eq.mpr h;simp only[YV,hb,if_pos (h.trans hk)]
   ·let hb:(g == k)=false:=beq_eq_false_iff_ne.mpr h;simp only[YV,hb,if_neg (λe:g=f=>h (e.trans hk.symm))]
  ·rw[if_neg hk];by_cases h:g=k
   ·let hb:(g == k)=true:=beq_iff_eq.mpr h;simp only[YV,hb,if_neg (λe:g=f=>hk (h.symm.trans e))]
   ·let hb:(g == k)=false:=beq_eq_false_iff_ne.mpr h;simp only[YV,hb];show ih
theorem wU(f:Str)(v:V):∀fs:x_ (Str×V),f∈(mZ f v fs).map (·.1)/\∀g,g∈fs.map (·.1)->g∈(mZ f v fs).map (·.1)
 |[]=>⟨by simp[mZ],λg h=>by simp at h⟩
 |(k,x)::r=>by
  let⟨i1,i2⟩:=wU f v r;rw[show mZ f v ((k,x)::r)=(if k=f then(k,v)::r else(k,x)::mZ f v r) from rfl]
  by_cases hk:k=f
  ·rw[if_pos hk];subst hk;show⟨by simp,λg h=>by simpa using h⟩
  ·rw[if_neg hk];refine⟨?_,λg h=>?_⟩
   ·rw[zg];show y9 _ i1
   ·rw[zg]at h⊢;rcases zq.mp h with e|e
    ·show zq.mpr (.inl e)
    ·show y9 _ (i2 g e)
theorem zC(f:Str)(v:V):∀fs:x_ (Str×V),(mZ f v fs).length<=fs.length+1
 |[]=>by simp[mZ]
 |(k,x)::r=>by
  let ih:=zC f v r;rw[show mZ f v ((k,x)::r)=(if k=f then(k,v)::r else(k,x)::mZ f v r) from rfl]
  by_cases hk:k=f
  ·rw[if_pos hk,Wi,Wi];omega
  ·rw[if_neg hk,Wi,Wi];omega
theorem pL.some_of{o:y_ qe}(r:pL (a_ v) o):∃u,o=a_ u/\ZF u:=by
 cases o with
 |none=>exact(show False from r).elim
 |some u=>exact⟨u,rfl,r⟩
theorem pL.none_of{o:y_ qe}(r:pL b_ o):o=b_:=by
 cases o with
 |none=>rfl
 |some u=>exact(show False from r).elim
theorem K0(r:ZF u):PySem.W.handedIn u=true:=by
 cases v with
 |non=>cases(show u=zo from r);rfl
 |bl b=>cases(show u=Value.bool b from r);rfl
 |int i=>let⟨t,e⟩:=(show ∃t,u=Value.int i t from r);cases e;rfl
 |str x=>let⟨t,e⟩:=(show ∃t,u=Value.str x t from r);cases e;rfl
 |byt b=>let⟨t,e⟩:=(show ∃t,u=Value.bytes b t from r);cases e;rfl
 |flt b=>let⟨t,e⟩:=(show ∃t,u=Value.float b t from r);cases e;rfl
 |ref a=>cases(show u=Wh a from r);rfl
 |ty n=>cases(show u=Value.type n from r);rfl
section
variable{h:t_}{C:r_}{fs si:x_ (Str×V)}
theorem Av(hok:ZZ h)(e:H a=a_ (.ins C dx fs)):∃mA,Hk h a dx C mA/\(∀f,pL (fs.lookup f) (mA f))/\PySem.Within mA (fs.map (·.1))/\fs.length<=1000/\H dx=a_ (.own a):=by
 let⟨d,z,ne,ob,mA,n,r,q⟩:=(show cW P w H h a (.ins C dx fs) from hok a _ e)
 show⟨mA,⟨ob,n,ne⟩,r,q,z,d⟩
end
structure Cls(K:y0)(C:r_):Prop where
 pg:XC K C Str.empty=true
 hd:XX K C=true
 po:Yr K C=true
 sa:zy K (.ref C) "__setattr__" = some (some (.builtin "object.__setattr__"))
theorem Cls.get{C:r_}(c:Cls K C)(f:Str):XC K C f=true:=c.pg
def pU(K:y0)(C:r_)(f:Str):Prop:=zy K (.ref C) f=a_ b_
theorem pU.taker{C:r_}{f:Str}(n:pU K C f):PySem.W.takerIn K C f=a_ b_:=by
 unfold PySem.W.takerIn;rw[show zy K (.ref C) f=a_ b_ from n]
 rfl
structure DK(K:y0)(C:r_)(m:Str)(f:r_):Prop where
 at_:zy K (.ref C) m=some (c_ f)
 fn:PySem.W.isFn K (.ref f)=true
 kp:WO K (.ref f)=true
variable{b:Bool}{env:Env}
section
variable{C:r_}{fs:x_ (Str×V)}{f:Str}
theorem Hl(I:N_ s)(e:H a=a_ (.ins C dx fs))(c:Cls X.K C)(n:pU X.K C f)(l:fs.lookup f=a_ v)(h:∀u s',N_ s'->ZF u->Q u s'):wpAny (g_ X) A (getAttr (.ref a) f b) Q E s:=by let⟨mA,O,r,_,_,_⟩:=Av I.hok e;let⟨u,hu,ru⟩:=pL.some_of (v:=v) (o:=mA f) (by rw[<-l];show r f);show get_map I.kIn O (c.get f) c.hd n hu (K0 ru) (h u _ (Zy 0) ru)
theorem AY{m:Str}{g:r_}{pl:Sem Bool}{Q:qe×ZE 0->q_->Prop}(I:N_ s)(e:H a=a_ (.ins C dx fs))(c:Cls X.K C)(k:DK X.K C m g)(l:fs.lookup m=b_)
  (h:Q (.ref g,[.ref a]) s):wpAny (g_ X) A (getMethod (.ref a) m pl) Q E s:=by
 let⟨mA,O,r,_,_,_⟩:=Av I.hok e;let hn:mA m=b_:=pL.none_of (by rw[<-l];show r m);show Lu I.kIn O (c.get m) k.at_ k.fn hn h
theorem Hm{Q:jn Unit}(I:N_ s)(e:H a=a_ (.ins C dx fs))(c:Cls X.K C)(n:pU X.K C f)(hl:fs.length<1000)(ry:Z4 u)(h:∀s',h_ (R_ a (.ins C dx (mZ f y fs))) s'->Q () s'):wpAny (g_ X) A (setAttr (.ref a) f u) Q E s:=by
 let⟨mA,O,r,wi,_,ho⟩:=Av I.hok e;let hz:(fs.map (·.1)).length<=zf:=by rw[za,Wm];omega
 refine Of I.kIn O c.sa c.po n.taker c.hd wi hz λh' O' sb=>h _ ?_;let hd:∃o,h'.get? dx=a_ o:=let ⟨o,_,_,e',_⟩:=O'.ns;⟨o,e'⟩;refine I.write (x:=a) (e:=dx) (by rw[e];show WZ) (.inr ho) (λb q hb z=>(sb.2 b hb).trans z) hd ?_;refine⟨by rw[aQ O.ne];show ho,?_,O.ne,O'.obj,_,O'.ns,λg=>?_,λg hg=>?_⟩
 ·have:=zC f y fs;omega
 ·change pL ((mZ f y fs).lookup g) (if g=f then a_ u else mA g)
  rw[zB];by_cases q:g=f
  ·rw[if_pos q,if_pos q];show ry
  ·rw[if_neg q,if_neg q];show r g
 ·by_cases q:g=f
  ·rw[q];show(wU f y fs).1
  ·refine(wU f y fs).2 g (wi g λz=>hg ?_)
   change(if g=f then a_ u else mA g)=b_
   rw[if_neg q];show z
theorem Inv.made(I:N_ s):h_ (upd (R_ (e_ s) (.own (s.heap.objs.size+1))) (s.heap.objs.size+1) (.ins C (e_ s) []))
  {s with heap:=(s.heap.push WY).push (Xx C (e_ s))}:=by
 let e1:(s.heap.push WY).get? (e_ s)=a_ WY:=zh s.heap rfl;let e2:((s.heap.push WY).push (Xx C (e_ s))).get? (s.heap.objs.size+1)=a_ (Xx C (e_ s)):=by
  have:=zh (s.heap.push WY) (o:=Xx C (e_ s)) rfl
  rwa[Yy]at this
 let e3:(s.heap.push WY).Ns (e_ s) (λ_=>b_):=⟨WY,#[],_,e1,rfl,(λe he=>absurd he (by simp)),λ_=>rfl⟩;let I1:=I.laid (a:=(e_ s)) (o:=.own (s.heap.objs.size+1)) (h':=s.heap.push WY) (t':=s.toks) (λb u q=>y6 _ q) (zd _) ⟨_,e1⟩;refine I1.laid (a:=(e_ s)+1) (o:=.ins C (e_ s) []) (t':=s.toks) (λb u q=>y6 _ q) (Nat.le_of_eq (Yy _ _)) ?_;let ne:(e_ s)≠(e_ s)+1:=Io (Nat.lt_succ_self _);refine⟨by rw[aQ ne,aX],z8 _,ne,e2,λ_=>b_,(Heap.Ns1.of_empty e3).at λo q=>y6 _ q,λ_=>WZ,λy hy=>absurd rfl hy⟩
theorem Og{f:Str}(hb:XF e f env (eval e env)=eval e env)(h:B_ (eval e env) (λo s₁=>B_ (getAttr o f true) Q E s₁) E s):B_ (eval (.Attribute e f pos) env) Q E s:=Attribute_any_ h (by rw[arm_eval_Attribute,hb])
end
def Va(K:y0)(ta:TE)(f:Str):TE:=λσ H Q=>ta σ H λx H1=>∃a C dx fs v,x=.ref a/\H1 a=a_ (.ins C dx fs)/\Cls K C/\pU K C f/\fs.lookup f=a_ v/\Q v H1
def Vb(K:y0)(ta tv:TE)(f:Str):TS:=λD σ H=>tv σ H λy H1=>ta σ H1 λx H2=>∃a C dx fs,x=.ref a/\H2 a=a_ (.ins C dx fs)/\Cls K C/\pU K C f/\fs.length<1000/\
 D.nx σ (upd H2 a (.ins C dx (mZ f y fs)))
variable{value:v_}
section
variable{o:v_}{f:Str}{m5:Pos}{tv:TE}
theorem Rf(he:Zx e ta)(hb:XF e f X.env (X_ 0)=X_ 0):Zx (.Attribute e f pos) (Va X.K ta f):=by intro FR s σ H Q I h;refine Og hb (thn (he FR s σ H _ I h) λu s1 hz=>?_);let⟨x,H1,I1,rx,a,C,dx,fs,v,ex,ea,c,n,l,q⟩:=hz;subst ex;obtain rfl:u=Wh a:=rx;show Hl I1 ea c n l λu' s2 I2 ru=>⟨v,H1,I2,ru,q⟩
theorem Rg(ha:Zx o ta)(hv:Zx value tv)(hs:swapsWith value (a_ (.Attribute o f pos')) pos.line X.env=pure false):PS X (.Assign [.Attribute o f pos'] value pos) (Vb X.K ta tv f):=by intro FR s σ H D I h;refine plainObj_wpAny_Assign_Attribute (thn (hv FR s σ H _ I h) λu s1 ⟨y,H1,I1,ry,q⟩=>thn (ha FR s1 σ H1 _ I1 q) λov s2 hz=>?_) hs;let⟨x,H2,I2,rx,a,C,dx,fs,ex,ea,c,n,l,q2⟩:=hz;subst ex;obtain rfl:ov=Wh a:=rx;show Hm I2 ea c n l ry λs3 I3=>⟨σ,_,I3,q2⟩
end
inductive wV(K:y0)(H:Hp):V->Value->Prop where
 |non:wV K H .non (.type "NoneType")
 |bl (x:Bool):wV K H (.bl x) (.type "bool")
 |int (i:Int):wV K H (.int i) (.type "int")
 |str (x:Str):wV K H (.str x) (.type "str")
 |flt (x:UInt64):wV K H (.flt x) (.type "float")
 |lst {a:Addr} {xs:x_ V} (e:H a=some (.lst xs)):wV K H (.ref a) (.type "list")
 |frz {a:Addr} {o:Obj} {xs:x_ V} (e:H a=some (.frz o (.lst xs))):wV K H (.ref a) (.type "list")
 |tup {a:Addr} {xs:x_ V} (e:H a=some (.tup xs)):wV K H (.ref a) (.type "tuple")
 |dK {a:Addr} {kvs:x_ (Key×V)} (e:H a=some (.dK kvs)):wV K H (.ref a) (.type "dict")
 |dT {a:Addr} {kvs:x_ (x_ Key×V)} (e:H a=some (.dT kvs)):wV K H (.ref a) (.type "dict")
 | ins {a C dx:Addr} {fs:x_ (Str×V)} (e:H a=some (.ins C dx fs)) (cl:Cls K C) (ha:zy K (.ref C) "__class__" = some (some (.builtin "object.__class__")))
   (hn:PySem.W.specialIn K (.builtin "object.__class__") "__get__" = some (some (.builtin "getset_descriptor.__get__"))) (htk:PySem.W.takesIn K (.builtin "object.__class__")=some true)
   (hm:PySem.W.mroIn K C (.type "object")=some true):wV K H (.ref a) (.ref C)
theorem K1{c:qe}{x:V}{t:qe}(I:N_ s)(rx:Zr u)(ty:wV X.K H x t)(e:PySem.W.kitOne X.K t c=a_ b)(h:∀tk,Q (.bool b) { s with toks:=tk}):
  wpAny (g_ X) A (call (.builtin "isinstance") [u,c]) Q E s:=by
 cases ty with
 |non=>cases(show u=zo from rx);show WG PySem.W.kitx_none I.kIn WZ e (λz=>nomatch z) h
 |bl y=>cases(show u=Value.bool y from rx);show WG PySem.W.kitx_bool I.kIn WZ e (λz=>nomatch z) h
 |int i=>let⟨t,q⟩:=(show ∃t,u=Value.int i t from rx);cases q;show WG PySem.W.kitx_int I.kIn WZ e (λz=>nomatch z) h
 |str y=>let⟨t,q⟩:=(show ∃t,u=Value.str y t from rx);cases q;show WG PySem.W.kitx_str I.kIn WZ e (λz=>nomatch z) h
 |flt y=>let⟨t,q⟩:=(show ∃t,u=Value.float y t from rx);cases q;show WG PySem.W.kitx_float I.kIn WZ e (λz=>nomatch z) h
 | @lst a xs ea=>
  cases(show u=Wh a from rx)
  let⟨_,_,n,_,h1⟩:=(show Zj H s.heap a (.lst xs) from I.hok a _ ea)
  show WG PySem.W.kitx_list I.kIn ⟨_,h1,rfl⟩ e (λz=>nomatch z) h
 | @frz a ob xs ea=>
  cases(show u=Wh a from rx)
  let⟨_,_,_,n,_,h1⟩:=(show Zj H s.heap a (.frz ob (.lst xs)) from I.hok a _ ea)
  show WG PySem.W.kitx_list I.kIn ⟨_,h1,rfl⟩ e (λz=>nomatch z) h
 | @tup a xs ea=>
  cases(show u=Wh a from rx)
  let⟨_,_,_,p⟩:=(show Zj H s.heap a (.tup xs) from I.hok a _ ea)
  let⟨o,h1,h2,_⟩:=p;show WG PySem.W.kitx_tuple I.kIn ⟨o,h1,h2⟩ e (λz=>nomatch z) h
 | @dK a kvs ea=>
  cases(show u=Wh a from rx)
  let⟨_,_,vs,_,p⟩:=(show Zj H s.heap a (.dK kvs) from I.hok a _ ea)
  let⟨o,es,ep,h1,h2,_⟩:=p;show WG PySem.W.kitx_dict I.kIn ⟨o,h1,h2.1⟩ e (λz=>nomatch z) h
 | @dT a kvs ea=>
  cases(show u=Wh a from rx)
  let⟨_,_,xs,_,o,es,ep,h1,h2,_⟩:=(show Zj H s.heap a (.dT kvs) from I.hok a _ ea)
  show WG PySem.W.kitx_dict I.kIn ⟨o,h1,h2.1⟩ e (λz=>nomatch z) h
 | @ins a C dx fs ea cl ha hn htk hm=>
  cases(show u=Wh a from rx)
  let⟨mA,O,_⟩:=Av I.hok ea;let⟨od,J,_⟩:=O.look;show WG (PySem.W.kitx_own (cl.get _) cl.hd ha hn htk hm) I.kIn J e (λz=>nomatch z) h
structure gU(k:Nat)(A:td):Prop where
 hd:A.handled=none
 dp:A.depth+3*k+5<recursionLimit
 un:A.units+16*k+200<cLine
theorem gU.mono{k:Nat}(r:gU k A)(h:j<=k):gU j A:=⟨r.hd,by have:=r.dp;omega,by have:=r.un;omega⟩
theorem gU.deeper{k:Nat}(r:gU (k+1) A)(env:Env):gU k (A.deeper env):=⟨r.hd,by have:=r.dp;change A.depth+1+3*k+5<_;omega,by have:=r.un;change A.units+3+16*k+200<_;omega⟩
theorem gU.in1{k:Nat}(r:gU (k+1) A):gU k A.in1:=⟨r.hd,by have:=r.dp;change A.depth+3*k+5<_;omega,by have:=r.un;change A.units+1+16*k+200<_;omega⟩
theorem Hn{C:r_}:(A.under (.builtin "type.__call__" ⟨.ref C::us,kw⟩)).depth=A.depth+1:=by first|rfl|simp[Around.under,Code.weight,Code.isCreation,Code.isGuard,Code.isCaller,Code.frames,Code.isFrame,guardIds]
theorem Ho{C:r_}:(A.under (.builtin "type.__call__" ⟨.ref C::us,kw⟩)).units=A.units+1:=by first|rfl|simp[Around.under,Code.cUnits,Code.frames,Code.isFrame]
theorem gU.make{k:Nat}(r:gU (k+1) A)(C:r_)(us:ZE 0)(kw:x_ (Str×qe)):gU k (A.under (.builtin "type.__call__" ⟨.ref C::us,kw⟩)):=⟨r.hd,by have:=r.dp;rw[Hn];omega,by have:=r.un;rw[Ho];omega⟩
theorem gU.depth{k:Nat}(r:gU k A):A.depth<recursionLimit:=by have:=r.dp;omega
theorem gU.units{k:Nat}(r:gU k A):A.units+64<cLine:=by have:=r.un;omega
def Oh:TA:=λ_ H Q=>Q [] H
def Qr(ta:TE)(tr:TA):TA:=λσ H Q=>ta σ H λx H1=>tr σ H1 λxs H2=>Q (x::xs) H2
section
variable{t:TA}
theorem Hq:PA X [] Oh:=λ_ _ _ _ H Q I h=>Calls.spliced_nil ⟨[],H,I,.nil,h⟩
theorem DL(ha:Zx e te)(hr:PA X es t)(hs:zw (e::es) X.env=(false,X_ 0)::U_ 0:=by rfl):PA X (e::es) (Qr te t):=by
 intro pos FR s σ H Q I h;rw[hs]
 change I_ (spliced ((false,X_ 0)::Ze (U_ 0))) _ _ s
 refine Calls.spliced_cons (thn (ha FR s σ H _ I h) λu s1 hz=>?_);let⟨x,H1,I1,r1,q1⟩:=hz;show thn (hr pos FR s1 σ H1 _ I1 q1) λus s2 ⟨xs,H2,I2,r2,q2⟩=>⟨x::xs,H2,I2,.cons r1 r2,q2⟩
def Vc(t:TA):TE:=λσ H Q=>t σ H λxs H1=>xs.length<=zf/\∀p,H1 p=b_->Q (.ref p) (upd H1 p (.tup xs))
def Vd(t:TA):TE:=λσ H Q=>t σ H λxs H1=>xs.length<=zf/\∀p,H1 p=b_->Q (.ref p) (upd H1 p (.lst xs))
theorem Rh{x1}(h:PA X es t):Zx (.Tuple es x1 pos) (Vc t):=by intro FR s σ H Q I hq;refine wpAny_Tuple_spliced (thn (h pos FR s σ H _ I hq) λus s1 ⟨xs,H1,I1,r,z,q⟩=>⟨by rw[<-r.length];show z,?_⟩);let hf:H1 (e_ s1)=b_:=I1.hok.fresh (zd _);refine⟨.ref (e_ s1),upd H1 (e_ s1) (.tup xs),I1.laid (t':=s1.toks) (λb u e=>y6 _ e) (zd _) ?_,rfl,q _ hf⟩;show⟨z,us,r,⟨_,ZL 0,rfl,⟨_,rfl⟩,rfl⟩⟩
theorem Ri(h:PA X es t):Zx (.List es pos) (Vd t):=by intro FR s σ H Q I hq;refine wpAny_List_spliced (thn (h pos FR s σ H _ I hq) λus s1 ⟨xs,H1,I1,r,z,q⟩=>⟨by rw[<-r.length];show z,?_⟩);let hf:H1 (e_ s1)=b_:=I1.hok.fresh (zd _);refine⟨.ref (e_ s1),upd H1 (e_ s1) (.lst xs),I1.laid (t':=s1.toks) (λb u e=>y6 _ e) (zd _) ?_,rfl,q _ hf⟩;show⟨z,us,0,r,ZL 0⟩
end
abbrev Sp:=x_ V->Hp->VK->XK->Prop
abbrev CXT:=x_ Env->Hp->q_->XK->f_ 0
structure Ct(P:ve)(w:u_)(K:y0)(mg:m_ 0)(base:t_)(A:td)(outer:x_ Env)(s:q_)(H:Hp):Prop where
 frames:A.frames=some outer
 mod:Mod K mg base
 bs:∀b o,base.get? b=some o->s.heap.get? b=some o/\H b=none
 bsz:base.objs.size<=(e_ s)
 funs:s.heap.FunFrames base outer
 frf:∀b∈frs outer,H b=none
 hok:HOk P w H s.heap
 bare:AllBare s.gens
def CE(outer:x_ Env)(P:ve)(w:u_)(H:Hp)(s:q_)(Q:VK)(u:qe)(s':q_):Prop:=
 ∃v H',s'.os=s.os/\AllBare s'.gens/\Un (frs outer) [] H H' s.heap s'.heap/\HOk P w H' s'.heap/\ZF u/\Q v H'
def CR(CX:CXT)(outer:x_ Env)(P:ve)(w:u_)(H:Hp)(s:q_)(Q:VK)(E:XK)(r:Result)(s':q_):Prop:=
 match r with
 |.ok (.ret u)=>CE outer P w H s Q u s'
 |.ok _=>False
 |.error e=>CX outer H s E e s'
structure aT(P:ve)(w:u_)(K:y0)(mg:m_ 0)(base:t_)(CX:CXT)(k:Nat)(f:r_)(fd:z6)(ps:x_ Str)(sp:Sp):Prop where
 len:∀vs H Q E,sp vs H Q E->vs.length=ps.length
 run:∀(A:td)(outer:x_ Env)(s:q_)(H:Hp)(args:Args)(us:x_ qe)(vs:x_ V)(Q:VK)(E:XK),gU k A->Ct P w K mg base A outer s H->BindsTo s fd args (ps.zip us)->aS vs us->sp vs H Q E->
  codeAny (model P w) A (.call (.ref f) args) (CR CX outer P w H s Q E) s
variable{CX:CXT}{base:t_}{fd:z6}{mg:m_ 0}{ps:Zw 0}{sp:Sp}
theorem aT.imp{k:Nat}{f:r_}{uj:Sp}(F:aT P w K mg base CX k f fd ps sp)(h:∀vs H Q E,uj vs H Q E->sp vs H Q E):aT P w K mg base CX k f fd ps uj:=⟨λvs H Q E q=>F.len vs H Q E (h _ _ _ _ q),λA outer s H args us vs Q E hr he hb hv hs=>F.run A outer s H args us vs Q E hr he hb hv (h _ _ _ _ hs)⟩
variable{outer:x_ Env}
theorem Ct.make(e:Ct P w K mg base A outer s H)(C:r_)(us:ZE 0)(kw:x_ (Str×qe)):
  Ct P w K mg base (A.under (.builtin "type.__call__" ⟨.ref C::us,kw⟩)) outer s H:=⟨by first|exact e.frames|(simpa[Around.under,Code.envs,Code.isFrame,pushEnvs] using e.frames),e.mod,e.bs,e.bsz,e.funs,e.frf,e.hok,e.bare⟩
theorem Ct.in1(e:Ct P w K mg base A outer s H):
  Ct P w K mg base A.in1 outer s H:=⟨e.frames,e.mod,e.bs,e.bsz,e.funs,e.frf,e.hok,e.bare⟩
theorem Inv.env0(I:N_ s):Ct X.prog X.w X.K X.mg X.base X.A X.stack s H:=⟨I.ok.frames,I.ok.mod,I.bs,Wu I.ok.bsz I.sz,I.stack,I.stkFree,I.hok,I.bare⟩
theorem Inv.after{Q:VK}(I:N_ s)(h:CE X.stack X.prog X.w H s Q u s'):Y2 Q u s':=by let⟨v,H',os,bare,un,hok,r,q⟩:=h;let⟨hh,g,d,t,vm⟩:=s';obtain rfl:vm=s.os:=os;show⟨v,H',I.call (h':=hh) (g':=g) (d':=d) (t':=t) (ch:=[]) un hok bare (λb z=>absurd z (by simp)),r,q⟩
def Lw(sp:Sp)(bz:x_ V)(E:XK)(t:TA):TE:=λσ H Q=>t σ H λvs H1=>sp (vs++bz) H1 Q E
def Qs(C:r_)(sp:Sp)(bz:x_ V)(E:XK)(t:TA):TE:=λσ H Q=>t σ H λvs H1=>∀x dx,H1 x=b_->H1 dx=b_->dx≠x->
 sp (.ref x::(vs++bz)) (upd (upd H1 dx (.own x)) x (.ins C dx [])) (λv H2=>v=.non/\Q (.ref x) H2) E
def Binds(K:y0)(fd:z6)(ps:Zw 0)(ds:ZE 0):Prop:=
 ∀(s:q_)(us:ZE 0),K.In s.heap->(us++ds).length=ps.length->BindsTo s fd ⟨us,[]⟩ (ps.zip (us++ds))
theorem Binds.all(h:∀us:ZE 0,us.length=ps.length->bindArgs fd ⟨us,[]⟩=pure (ps.zip us)):Binds K fd ps []:=λs us _ hl=>by rw[Xk]at hl⊢;show .of_eq (h us hl)
def sV(CX:CXT)(X:Cx)(E:XK):Prop:=∀(FR:gV 0)(σ:St)(H:Hp)(s:q_)(e:qe)(s':q_),N_ s->CX X.stack H s E e s'->X.xe e s'
variable{bz vs:x_ V}
section
variable{k:Nat}{f C:r_}{ds:ZE 0}{E:XK}{m:Str}{p:Pos}{o:v_}{t:TA}
theorem DM{Q:VK}(F:H_ CX k f fd ps sp)(hr:gU k X.A)(hb:ZA ds)(hd:aS bz ds)(hx:sV CX X E)(I:N_ s)(r:aS vs us)(h:sp (vs++bz) H Q E):wpAny (g_ X) X.A (call (.ref f) us) (Y2 Q) X.xe s:=by
 let r2:aS (vs++bz) (us++ds):=r.append hd;let hl:(us++ds).length=ps.length:=by rw[<-r2.length];show F.len _ _ _ _ h
 refine wpAny_call (codeAny_mono (F.run X.A X.stack s H ⟨us,[]⟩ (us++ds) (vs++bz) Q E hr I.env0 (hb s us I.kIn hl) r2 h) λr s' hq=>?_);cases r with
 |error e=>exact hx FR σ H s e s' I hq
 |ok fl=>
  cases fl with
  |ret u=>exact I.after hq
  |next=>exact Xh hq
  |brk=>exact Xh hq
  |cont=>exact Xh hq
theorem Oi(F:H_ CX k f fd ps sp)(hr:gU k X.A)(hg:Gl X x)(hm:X.mg x=c_ f)(hk:WO X.K (.ref f)=true)(hb:ZA ds)(hd:aS bz ds)(hx:sV CX X E)
  (ha:PA X (e::es) t) (bg:(x == ("__debug__" : Str))=false:=by decide) (he:zw (e::es) X.env=(false,X_ 0)::U_ 0:=by rfl) (ba:(Ze (U_ 0)).any (·.1)=false:=by rfl):
  Zx (.Call (.Name x p) (e::es) [] pos) (Lw sp bz E t):=by
 intro FR s σ H Q I h;refine W4 (nS I hg hm ?_ bg);refine PySem.W.callWith_K (h₀:=X.base) I.ok.mod.kin hk (thn (Z9 0) λus s1 ⟨vs,H1,I1,r,q⟩=>⟨I1.kIn,?_⟩) he ba;show DM F hr hb hd hx I1 r q
theorem Lx(F:H_ CX k f fd ps sp)(hr:gU k X.A)(hg:Gl X x)(hm:X.mg x=c_ f)(hk:WO X.K (.ref f)=true)(hb:ZA ds)(hd:aS bz ds)(hx:sV CX X E)
  (bg:(x == ("__debug__" : Str))=false:=by decide):Zx (.Call (.Name x p) [] [] pos) (Lw sp bz E Oh):=by
 intro FR s σ H Q I h;refine W4 (nS I hg hm ?_ bg);show PySem.W.callWith_K0 I.kIn hk (DM (us:=[]) F hr hb hd hx I .nil h)
structure Mk(K:y0)(C f:r_):Prop where
 makes:Yi K C=true
 init:zy K (.ref C) "__init__" = some (c_ f)
 fn:PySem.W.isFn K (.ref f)=true
 kp:WO K (.ref C)=true
theorem Fp{Q:VK}(M:Mk X.K C f)(F:H_ CX k f fd ps sp)(hr:gU (k+1) X.A)(hb:ZA ds)(hd:aS bz ds)(hx:sV CX X E)(I:N_ s)(r:aS vs us)(h:∀x dx,H x=b_->H dx=b_->dx≠x->sp (.ref x::(vs++bz)) (upd (R_ dx (.own x)) x (.ins C dx [])) (λv H2=>v=.non/\Q (.ref x) H2) E):
  wpAny (g_ X) X.A (call (.ref C) us) (Y2 Q) X.xe s:=by
 let hq:=h (s.heap.objs.size+1) (e_ s) (I.hok.fresh (Nat.le_succ _)) (I.hok.fresh (zd _)) (Io (Nat.lt_succ_self _));let I2:=Inv.made (C:=C) I;let r2:aS (V.ref (s.heap.objs.size+1)::(vs++bz)) (Wh (s.heap.objs.size+1)::(us++ds)):=.cons rfl (r.append hd);let hl:(Wh (s.heap.objs.size+1)::us++ds).length=ps.length:=by let e:=r2.length;rw[F.len _ _ _ _ hq]at e;show e.symm
 refine wpAny_call (Lv (f:=f) I.kIn M.makes M.init (beq_iff_eq.mp M.fn) (codeAny_mono (F.run _ X.stack _ _ ⟨Wh (s.heap.objs.size+1)::us,[]⟩ (Wh (s.heap.objs.size+1)::(us++ds)) _ _ E (hr.make C us [])
  (I2.env0.make C us []) (hb _ (Wh (s.heap.objs.size+1)::us) I2.kIn hl) r2 hq) λr s' fi=>?_))
 cases r with
 |error e=>exact hx FR σ _ _ e s' I2 fi
 |ok fl=>
  cases fl with
  |ret u=>let⟨v,H',I3,rv,ev,q3⟩:=I2.after fi;subst ev;show⟨rv,⟨V.ref (s.heap.objs.size+1),H',I3,rfl,q3⟩⟩
  |next=>exact Xh fi
  |brk=>exact Xh fi
  |cont=>exact Xh fi
theorem Oj(M:Mk X.K C f)(F:H_ CX k f fd ps sp)(hr:gU (k+1) X.A)(hg:Gl X x)(hm:X.mg x=c_ C)(hb:ZA ds)(hd:aS bz ds)(hx:sV CX X E)
  (ha:PA X (e::es) t) (bg:(x == ("__debug__" : Str))=false:=by decide) (he:zw (e::es) X.env=(false,X_ 0)::U_ 0:=by rfl) (ba:(Ze (U_ 0)).any (·.1)=false:=by rfl):
  Zx (.Call (.Name x p) (e::es) [] pos) (Qs C sp bz E t):=by
 intro FR s σ H Q I h;refine W4 (nS I hg hm ?_ bg);refine PySem.W.callWith_K (h₀:=X.base) I.ok.mod.kin M.kp (thn (Z9 0) λus s1 ⟨vs,H1,I1,r,q⟩=>⟨I1.kIn,?_⟩) he ba;show Fp M F hr hb hd hx I1 r q
theorem Ly(M:Mk X.K C f)(F:H_ CX k f fd ps sp)(hr:gU (k+1) X.A)(hg:Gl X x)(hm:X.mg x=c_ C)(hb:ZA ds)(hd:aS bz ds)(hx:sV CX X E)
  (bg:(x == ("__debug__" : Str))=false:=by decide):Zx (.Call (.Name x p) [] [] pos) (Qs C sp bz E Oh):=by
 intro FR s σ H Q I h;refine W4 (nS I hg hm ?_ bg);show PySem.W.callWith_K0 I.kIn M.kp (Fp (us:=[]) M F hr hb hd hx I .nil h)
end
structure aR(N P:x_ Str)(sc:Scope):Prop where
 kind:sc.kind=.function
 co:sc.isCoroutine=false
 gen:sc.isGenerator=false
 nd:N.Nodup
 pre:N.take P.length=P
 par:∀x∈P,sc.names.lookup x=some .local\/sc.names.lookup x=some .cell
 nofree:∀y∈sc.names,y.2≠.free
theorem CO{kindOf:Str->y_ Yg}{x:Str}:∀{binds:x_ (Str×qe)}{m:m_ 0},(∀v,(x,v)∉binds)->bindL kindOf binds m x=m x
 |[],_,_=>rfl
 |(n,v)::r,m,h=>by
  unfold bindL;rw[CO λw hw=>h w (y9 _ hw)];split
  ·have:x≠n:=by rintro rfl;show h v y8
   simp[this]
  ·rfl
theorem CP{kindOf:Str->y_ Yg}{x:Str}:∀{binds:x_ (Str×qe)}{m:m_ 0},(∀v,(x,v)∉binds)->bindC kindOf binds m x=m x
 |[],_,_=>rfl
 |(n,v)::r,m,h=>by
  unfold bindC;rw[CP λw hw=>h w (y9 _ hw)];split
  ·rfl
  ·have:x≠n:=by rintro rfl;show h v y8
   simp[this]
theorem CQ{kindOf:Str->y_ Yg}{x:Str}{v:qe}:∀{P:Zw 0}{vs:ZE 0}{i:Nat}{m:m_ 0},P.Nodup->P[i]?=a_ x->vs[i]?=a_ v->kindOf x=a_ .local->
  bindL kindOf (P.zip vs) m x=a_ v
 |[],_,_,_,_,h,_,_=>by simp at h
 |_::_,[],_,_,_,_,h,_=>by simp at h
 |p::P,w::vs,0,m,nd,h1,h2,hk=>by
  simp at h1 h2;subst h1;subst h2
  change bindL kindOf ((p,w)::P.zip vs) m p=_
  unfold bindL;rw[CO λv hv=>(Xy.mp nd).1 (List.of_mem_zip hv).1,if_pos hk];simp
 |p::P,w::vs,i+1,m,nd,h1,h2,hk=>by
  change bindL kindOf ((p,w)::P.zip vs) m x=_
  unfold bindL;show CQ (i:=i) (Xy.mp nd).2 (ke h1) (ke h2) hk
theorem CS{kindOf:Str->y_ Yg}{x:Str}{v:qe}:∀{P:Zw 0}{vs:ZE 0}{i:Nat}{m:m_ 0},P.Nodup->P[i]?=a_ x->vs[i]?=a_ v->kindOf x≠a_ .local->
  bindC kindOf (P.zip vs) m x=a_ v
 |[],_,_,_,_,h,_,_=>by simp at h
 |_::_,[],_,_,_,_,h,_=>by simp at h
 |p::P,w::vs,0,m,nd,h1,h2,hk=>by
  simp at h1 h2;subst h1;subst h2
  change bindC kindOf ((p,w)::P.zip vs) m p=_
  unfold bindC;rw[CP λv hv=>(Xy.mp nd).1 (List.of_mem_zip hv).1,if_neg hk];simp
 |p::P,w::vs,i+1,m,nd,h1,h2,hk=>by
  change bindC kindOf ((p,w)::P.zip vs) m x=_
  unfold bindC;show CS (i:=i) (Xy.mp nd).2 (ke h1) (ke h2) hk
def start(N:Zw 0)(vs:x_ V):St:=vs.map a_++XO (N.length-vs.length) b_
def Hr(CX:CXT)(P:ve)(w:u_)(K:y0)(mg:m_ 0)(base:t_)(N:Zw 0)(qual:Str)(scope:Scope)(f:r_)(cd:qe)(A:td)(outer:x_ Env)(s:q_)(H:Hp)(E:XK):Cx where
 prog:=P
 w:=w
 K:=K
 mg:=mg
 base:=base
 A:=A.deeper (ZS (e_ s) f cd)
 N:=N
 s₀:=s
 H₀:=H
 env:=ZS (e_ s) f cd
 outer:=outer
 stack:=ZS (e_ s) f cd::outer
 ex:=[]
 calm:=true
 fn:=λ_=>true
 pn:=[]
 xe:=λe s'=>wpAny (model P w) (A.deeper (ZS (e_ s) f cd)) (leaving (ZS (e_ s) f cd) e) (λ_ cx=>CX outer H s E e cx) (λe' cx=>CX outer H s E e' cx) s'
variable{sc:Scope}
theorem Fq(h:Zm 0=a_ .cell):∃c,(WH n sc.names []).lookup x=a_ c:=by let q:=PySem.W.cellsFrom_some sc.names n [] (.inl h);show W0.mp q
variable{cd:qe}{qual:Str}{s1:q_}{scope:Scope}
theorem K2{f:r_}{E:XK}(S:aR N ps scope)(hd:A.handled=b_)(e0:Ct P w K mg base A outer s H)(hl:vs.length=ps.length)(r:aS vs us)(x:InCallC s (e_ s) (bindL (ZS (e_ s) f cd).kindOf (ps.zip us) λ_=>b_) (WH (s.heap.objs.size+1) scope.names []) (bindC (ZS (e_ s) f cd).kindOf (ps.zip us) λ_=>b_) s1):
  Inv (Zo cd A outer s H E) [] (start N vs) H s1:=by
 let ba:ps.length<=N.length:=by have:=congrArg YH S.pre;rw[Xb]at this;omega
 let⟨h1,tk,rfl,hk⟩:=x.done;let kg:∀b:r_,b∉(Zo cd A outer s H E).ex:=λb z=>absurd (show b∈([]:x_ r_) from z) (by simp)
 refine⟨⟨e0.mod,S.kind,rfl,rfl,zd _,λy z c h1 h2=>?_,λy hy=>?_,λy c _ h=>?_,λ_=>hd,Around.frames_deeper e0.frames,.inr ⟨rfl,rfl⟩,λb z=>absurd z (kg b),e0.bs,e0.bsz,λb _ _=>kg b,λb z=>absurd z (kg b),e0.funs,e0.frf⟩,
  rfl,e0.bare,Un.kept hk,⟨_,x.toInCall.ns,λi y v h1 h2 h3=>?_⟩,λy c h=>⟨_,x.cell y c h⟩,e0.hok.fresh (zd _),λy c h=>?_,λp hp=>absurd (show p∈([]:gV 0) from hp) (by simp),e0.hok.kept hk,?_⟩
 ·show name_of_addr x.apart (X7 h1) (X7 h2)
 ·let hy:scope.names.lookup y=a_ .cell\/scope.names.lookup y=a_ .free:=hy;rcases hy with hy|hy
  ·show Fq hy
  ·show absurd rfl (S.nofree _ (X7 hy))
 ·show XE (x.above y c (X7 h))
 ·let hi:i<vs.length:=by
   unfold start at h2;by_cases hi:i<vs.length
   ·show hi
   ·rw[Xe (ke hi)]at h2;rw[List.getElem?_replicate]at h2;split at h2 <;> cases h2
  let ha:vs[i]?=a_ v:=by
   unfold start at h2;rw[Wj (ke hi),zt]at h2;cases e:vs[i]? with
   |none=>rw[e]at h2;cases h2
   |some a=>rw[e]at h2;cases h2;rfl
  let⟨u,hu,rv⟩:=r.get ha;let hp:ps[i]?=a_ y:=by rw[<-S.pre,List.getElem?_take_of_lt ⋯];show h1
  let ux:ps.Nodup:=by rw[<-S.pre];show S.nd.sublist (List.take_sublist _ _)
  refine⟨u,rv,?_⟩;rcases S.par y (Wn hp) with k|k
  ·show .inl ⟨k,CQ ux hp hu k⟩
  ·let⟨c,e⟩:=Fq (n:=(e_ s)+1) k;refine .inr ⟨.inl k,c,e,?_⟩;let q:=x.cell y c e;rw[CS ux hp hu (by change scope.names.lookup y≠_;rw[k];decide)]at q;show q
 ·show e0.hok.fresh (XE (x.above y c (X7 h)))
 ·unfold start
  change _=N.length
  rw[W5,za,List.length_replicate];omega
variable{an od:y_ r_}{cdv ct doc pm:qe}{osl:l_ 0}{params:Arguments}
theorem Ts{k:Nat}{f:r_}{dV kV oc:qe}(lk:K.lookup f=a_ ⟨oc,od,.func (Xc name qual params body scope dV kV doc pm an cdv ct),osl⟩)(d8:Yz K cdv qual=true)(S:aR N ps scope)(len:∀vs H Q E,sp vs H Q E->vs.length=ps.length)(dz:∀(A:td)(outer:x_ Env)(s:q_)(H:Hp)(vs:x_ V)(Q:VK)(E:XK),gU k (A.deeper (ZS (e_ s) f cdv))->sp vs H Q E->
   ∃t,PSs (Zo cdv A outer s H E) body t/\t { nx:=λ_ H'=>Q .non H',rt:=Q} (start N vs) H):
  aT P w K mg base CX (k+1) f (Xc name qual params body scope dV kV doc pm an cdv ct) ps sp:=by
 refine⟨len,λA outer s H args us vs Q E hr e0 hb r ic=>?_⟩;let hl:=len _ _ _ _ ic;let KX:K.In s.heap:=e0.mod.kin.keeps λb o e=>(e0.bs b o e).1;let lim:s.heap.NoLimit:=e0.mod.nolimit.keeps λb o e=>(e0.bs b o e).1;let j8:∀y∈ps.zip us,scope.names.lookup y.1=a_ .local\/(scope.names.lookup y.1=a_ .cell/\((WH (s.heap.objs.size+1) scope.names []).lookup y.1).isSome=true):=λ⟨n,v⟩ hy=>by
  rcases S.par n (List.of_mem_zip hy).1 with q|q
  ·show .inl q
  ·show .inr ⟨q,PySem.W.cellsFrom_some _ _ _ (.inl q)⟩
 refine codeAny_call_function hr.depth (KX _ _ lk) rfl S.co S.gen rfl (PySem.W.codeRec_of KX d8) (hb _ _ _ _ ?_);refine wpAny_newFunctionEnv_cells S.kind j8 λenv he s1 x=>?_;subst he;refine⟨lim.keeps x.toInCall.keep,codeAny_func ?_⟩;let⟨t,ht,hq⟩:=dz A outer s H vs Q E (hr.deeper _) ic;let I:Inv (Zo cdv A outer s H E) [] (start N vs) H s1:=K2 S hr.hd e0 hl r x;refine Xg (ht [] s1 (start N vs) H _ I hq) (λfl s' hs=>?_) λe s' hs=>hs;let fin:∀{σ':St}{H':Hp}{v:V}{u:qe},Inv (Zo cdv A outer s H E) [] σ' H' s'->ZF u->Q v H'->CE outer P w H s Q u s':=
  λ{σ' H' v u} J rv q=>⟨v,H',J.os,J.bare,J.base,J.hok,rv,q⟩
 cases fl with
 |ret u=>let⟨v,σ',H',J,rv,q⟩:=hs;show fin J rv q
 |next=>let⟨σ',H',J,q⟩:=hs;show fin (v:=V.non) (u:=zo) J rfl q
 |brk=>let⟨_,_,_,q⟩:=hs;show Xh q
 |cont=>let⟨_,_,_,q⟩:=hs;show Xh q
variable{T:String}
section
variable{p:Pos}{t:TA}{id:String}{r:x_ V->Hp->VK->Prop}
def tCB(r:x_ V->Hp->VK->Prop)(t:TA):TE:=λσ H Q=>t σ H λvs H1=>r vs H1 Q
theorem Lz(hc:eL X (.builtin id) r)(hg:Gl X x)(hm:X.mg x=b_)(hv:XD x=a_ (.builtin id))(ha:PA X (e::es) t)(hn:x≠"__name__" := by decide)(bg:(x == ("__debug__" : Str))=false:=by decide)
  (he:zw (e::es) X.env=(false,X_ 0)::U_ 0:=by rfl) (ba:(Ze (U_ 0)).any (·.1)=false:=by rfl):Zx (.Call (.Name x p) (e::es) [] pos) (tCB r t):=by
 intro FR s σ H Q I h;refine W4 (sT I hg hm hv ?_ hn bg);show PyProof.Rows.callWith_builtin1 (thn (Z9 0) λus s1 ⟨vs,H1,I1,r1,q1⟩=>hc FR s1 σ H1 vs us Q I1 r1 q1) he ba
theorem K3(hc:eL X (.type T) r)(hg:Gl X x)(hm:X.mg x=b_)(hv:XD x=a_ (.type T))(ha:PA X (e::es) t)(hn:x≠"__name__" := by decide)(bg:(x == ("__debug__" : Str))=false:=by decide)
  (he:zw (e::es) X.env=(false,X_ 0)::U_ 0:=by rfl) (ba:(Ze (U_ 0)).any (·.1)=false:=by rfl):Zx (.Call (.Name x p) (e::es) [] pos) (tCB r t):=by
 intro FR s σ H Q I h;refine W4 (sT I hg hm hv ?_ hn bg);show Yj (thn (Z9 0) λus s1 ⟨vs,H1,I1,r1,q1⟩=>hc FR s1 σ H1 vs us Q I1 r1 q1) he ba
end
end L2
namespace HT
open PySem PyProof.Rows
variable{A:td}{E Q:f_ 0}{prog:ve}{s:q_}{vs ws:ZE 0}{w:u_}
theorem cat_tup{t b:r_}(ht:IsTup s.heap t vs.toArray)(hb:IsTup s.heap b ws.toArray)(hv:vs≠[])(h1:ws=[]->Q (.ref t) s)(h2:ws≠[]->Q (.ref (e_ s)) {s with heap:=s.heap.push {cls:=.type "tuple",data:=.seq (vs++ws).toArray} })(hsz:vs.length+ws.length<=zf):B_ (WU .Add (.ref t) (.ref b)) Q E s:=by
 let⟨⟨cls,dd,data,sl⟩,ho,hc,n,hd⟩:=id ht;let⟨⟨ip,ee,data2,e8⟩,c3,bu,n2,hd2⟩:=id hb;simp only at hc hd bu hd2;subst hc hd bu hd2;let e:vs.toArray++ws.toArray=(vs++ws).toArray:=by simp
 by_cases hw:ws=[]
 ·show concat_meets ⟨_,ho,rfl⟩ ⟨_,c3,rfl⟩ noFill_tuple_add seq_tuple_add PySem.F.slot_tuple_add PySem.F.entry_tuple_add (PySem.F.args_tuple_add_2 _ _)
   (tuple_addW1 t b vs.toArray ws.toArray n n2 dd ee sl e8 (ke hv) (by simp[hw])) ⟨ho,c3,h1 hw⟩
 ·refine concat_meets ⟨_,ho,rfl⟩ ⟨_,c3,rfl⟩ noFill_tuple_add seq_tuple_add PySem.F.slot_tuple_add PySem.F.entry_tuple_add (PySem.F.args_tuple_add_2 _ _)
   (tuple_addW2 t b vs.toArray ws.toArray n n2 dd ee sl e8 (ke hv) (ke hw) (by rw[zb,zb];show hsz)) ⟨ho,c3,?_⟩
  rw[e];show h2 hw
def sIx(n d:Nat):Zz 0->Nat
 |none=>d
 |some v=>if v<0 then(v+(n:Int)).toNat else min v.toNat n
theorem Rj(n d:Nat)(hd:d<=n)(o:Zz 0):sIx n d o<=n:=by
 cases o with
 |none=>exact hd
 |some v=>
  change(if v<0 then(v+(n:Int)).toNat else min v.toNat n)<=n
  by_cases hv:v<0
  ·rw[if_pos hv];omega
  ·rw[if_neg hv];show Nat.min_le_right _ _
theorem J4(v:Int)(n d:Nat):(if v<0 then max (v+(n:Int)) 0 else min v (n:Int))=((sIx n d (a_ v):Nat):Int):=by
 change(if v<0 then max (v+(n:Int)) 0 else min v (n:Int))=(((if v<0 then(v+(n:Int)).toNat else min v.toNat n):Nat):Int)
 by_cases hv:v<0
 ·simp only[if_pos hv];omega
 ·simp only[if_neg hv];omega
theorem Hs(lo hi:Zz 0)(n:Nat):YA lo hi 1 (n:Int)=(((sIx n 0 lo:Nat):Int),((sIx n n hi:Nat):Int)):=by
 let h1:¬ ((1:Int)<0):=⋯;unfold YA;simp only[h1,if_false];refine Prod.ext ?_ ?_
 ·cases lo with
  |none=>rfl
  |some v=>exact J4 v n 0
 ·cases hi with
  |none=>rfl
  |some v=>exact J4 v n n
theorem Ht(i j:Nat):XQ (i:Int) (j:Int) 1=j-i:=by
 unfold XQ;let h1:(1:Int)>0:=⋯;simp only[h1,if_true,Int.ediv_one];split <;> omega
variable{o:Zz 0}{v:qe}
theorem AZ{Q:Zz 0->q_->Prop}(p:IsPart v o)(h:Q o s):B_ (Builtin.Slice.slicePartIndex v) Q E s:=by
 cases p with
 |none=>exact slicePart_none h
 |int i t=>exact slicePart_int h
variable{hi lo:Zz 0}{n:Nat}{sl:r_}{vl vu:qe}
theorem sliceApplied_gen{Q:Int×Int×Nat->q_->Prop}(hs:s.heap.IsSliceOf sl vl vu .none)(pl:IsPart vl lo)(pu:IsPart vu hi)(h:Q (((sIx n 0 lo:Nat):Int),1,sIx n n hi-sIx n 0 lo) s):B_ (Builtin.Slice.sliceApplied (.ref sl) (pure (n:Int))) Q E s:=by
 let⟨os,jk,l9,ig⟩:=id hs;unfold Builtin.Slice.sliceApplied Builtin.Slice.sliceFields;refine yx (yx (YI jk ig (x:=vl) rfl (yx (YI jk ig (x:=vu) rfl (yx (YI jk ig (x:=.none) rfl (yz ?_)))))));refine yx (slicePart_none ?_)
 change I_ (if((1:Int) == 0)=true then _ else _) _ _ s
 rw[if_neg nofun];refine yx (AZ pl (yx (AZ pu (yx (yz ?_)))))
 change I_ (match YA lo hi 1 (n:Int) with|(lo,hi)=>pure (lo,(1:Int),XQ lo hi 1)) _ _ s
 rw[Hs lo hi n]
 change I_ (pure (((sIx n 0 lo:Nat):Int),(1:Int),XQ ((sIx n 0 lo:Nat):Int) ((sIx n n hi:Nat):Int) 1)) _ _ s
 rw[Ht];show yz h
theorem LA(xs:Y6 0)(i k:Nat):((z0 k).filterMap λ(m:Nat)=>xs[((i:Int)+(m:Int)*1).toNat]?).toArray=((xs.toList.drop i).take k).toArray:=by
 let e:(λ(m:Nat)=>xs[((i:Int)+(m:Int)*1).toNat]?)=λm=>xs[i+m]?:=by
  funext m;have:((i:Int)+(m:Int)*1).toNat=i+m:=⋯;rw[this]
 rw[e];have:=pick_run xs i k;rw[List.filterMap_map]at this;let e2:((λx=>xs[x]?)∘λx=>i+x)=λm=>xs[i+m]?:=rfl;rw[e2]at this;rw[this]
variable{items:Y6 0}
theorem getItem_tuple_cut{t:r_}(ht:IsTup s.heap t items)(hs:s.heap.IsSliceOf sl vl vu .none)(pl:IsPart vl lo)(pu:IsPart vu hi)(hw:¬ (YY 0 lo=0/\q0b 0=items.size))(h:Q (.ref (e_ s)) {s with heap:=s.heap.push {cls:=.type "tuple",data:=.seq ((items.toList.drop (YY 0 lo)).take (q0b 0-YY 0 lo)).toArray} })(hsz:items.size<=zf):B_ (getItem (.ref t) (.ref sl)) Q E s:=by
 let c9:sizeOk (.seq ((items.toList.drop (YY 0 lo)).take (q0b 0-YY 0 lo)).toArray):=by
  change((items.toList.drop (YY 0 lo)).take (q0b 0-YY 0 lo)).toArray.size<=zf
  rw[zb,Xb,List.length_drop,YG];omega
 let hj:q0b 0<=items.size:=Rj _ _ (zd _) hi;let⟨os,jk,l9,ig⟩:=id hs;let qd:s.TypeIs (.ref sl) "slice" := ⟨os,jk,l9⟩;unfold getItem
 try with_reducible refine WV ?_
 first|refine yx (yz ?_)|skip
 refine yx (wpAny_sequenceKey ht.typeIs nofun ?_);refine yx (WE (name:=WM "__getitem__") ht.typeIs WA
  (Ws WA ht.typeIs entry_tuple_getitem ?_ (args_tuple_getitem _ _)))
 change I_ (Yv (.ref t) >>= _) _ _ s
 refine yx (tupleItemsOf_ ht ?_);refine yx (wpAny_typeOf qd ?_);rw[if_pos nofun];refine yx (sliceApplied_gen hs pl pu ?_);let jv:¬ ((((sIx items.size 0 lo:Nat):Int) == 0&&(1:Int) == 1&&(q0b 0-YY 0 lo) == items.size)=true):=by intro q;rw[zp,zp]at q;let q1:((sIx items.size 0 lo:Nat):Int)=0:=eq_of_beq q.1.1;let q2:q0b 0-YY 0 lo=items.size:=eq_of_beq q.2;show hw ⟨⋯,⋯⟩
 change I_ (if(((sIx items.size 0 lo:Nat):Int) == 0&&(1:Int) == 1&&(q0b 0-YY 0 lo) == items.size)=true then _ else _) _ _ s
 rw[if_neg jv,LA]
 first
  |exact yx (m:=XY _) (We (yz ⟨_,rfl,yz h⟩) c9)
  |exact yx (m:=XY _) (We (yx (yz (yz ⟨_,rfl,yz h⟩))) c9)
  |exact yx (yx (m:=XY _) (We (yz (yz ⟨_,rfl,yz h⟩)) c9))
  |exact yx (yx (m:=XY _) (We (yz ⟨_,rfl,yz h⟩) c9))
end HT
namespace L2
abbrev TO:=St->Hp->(Zz 0->Hp->Prop)->Prop
def PO(X:Cx)(e:y_ v_)(t:TO):Prop:=
 ∀(FR:gV 0)(s:q_)(σ:St)(H:Hp)(Q:Zz 0->Hp->Prop),N_ s->t σ H Q->
  wpAny (g_ X) X.A (evalPart e X.env) (λu s'=>∃o H',h_ H' s'/\IsPart u o/\Q o H') X.xe s
def Ol:TO:=λ_ H Q=>Q b_ H
variable{ns:x_ Int}
theorem intsAre_of:∀{us:ZE 0},aS (Z_ 0) us->IntsAre us ns:=by
 induction ns with
 |nil=>intro us r;rw[List.map_nil]at r;cases r;show .nil
 |cons n ns ih=>
  intro us r;rw[zg]at r;cases r with
  |cons r1 r2=>let⟨t,e⟩:=r1;subst e;show .cons n t (ih r2)
variable{X:Cx}{hi lo:y_ v_}{r r':V->Zz 0->Zz 0->Hp->VK->Prop}{e:v_}{p2 pos:Pos}{te:TE}{us:ZE 0}
section
variable{tl th:TO}
theorem Om:PO X b_ Ol:=by intro FR s σ H Q I h;rw[evalPart_none];show yz ⟨b_,H,I,.none,h⟩
def SlR(X:Cx)(r:V->Zz 0->Zz 0->Hp->VK->Prop):Prop:=
 ∀(FR:gV 0)(s:q_)(σ:St)(H:Hp)(x:V)(v vl vu:qe)(lo hi:Zz 0)(sl:r_)(Q:VK),N_ s->Zr v->s.heap.IsSliceOf sl vl vu .none->IsPart vl lo->IsPart vu hi->r x lo hi H Q->
  ∃T id,typeLookup (.type T) "__getitem__" = pure (a_ (.builtin id))/\s.TypeIs v T/\wpAny (g_ X) X.A (getItem v (.ref sl)) (Y2 Q) X.xe s
theorem SlR.or(h:SlR X r)(h':SlR X r'):SlR X (λx lo hi H Q=>r x lo hi H Q\/r' x lo hi H Q):=by
 intro FR s σ H x v vl vu lo hi sl Q I rx hs pl pu q;rcases q with q|q
 ·show Zd x v vl vu lo hi sl Q I rx hs pl pu q
 ·show h' FR s σ H x v vl vu lo hi sl Q I rx hs pl pu q
def tSl(r:V->Zz 0->Zz 0->Hp->VK->Prop)(te:TE)(tl th:TO):TE:=λσ H Q=>te σ H λx H1=>tl σ H1 λl H2=>th σ H2 λu H3=>r x l u H3 Q
theorem LB(hr:SlR X r)(he:Zx e te)(hl:PO X lo tl)(hu:PO X hi th):Zx (.Subscript e (.Slice lo hi b_ p2) pos) (tSl r te tl th):=by
 intro FR s σ H Q I h;refine Subscript_ (thn (he FR s σ H _ I h) λv s1 hz=>?_);let⟨x,H1,I1,r1,q1⟩:=hz;refine wpAny_Slice (thn (hl FR s1 σ H1 _ I1 q1) λvl s2 ⟨l,H2,I2,pl,q2⟩=>thn (hu FR s2 σ H2 _ I2 q2) λvu s3 hz=>?_);let⟨u,H3,I3,pu,q3⟩:=hz;rw[evalPart_none];refine yz ?_;let I4:h_ H3 {s3 with heap:=s3.heap.push {cls:=.type "slice",data:=.fields #[vl,vu,.none]} }:=I3.kept (t':=s3.toks) λb ob q=>y6 _ q;let⟨T,id,hT,ht,hg⟩:=hr FR {s3 with heap:=s3.heap.push {cls:=.type "slice",data:=.fields #[vl,vu,.none]} } σ H3 x v vl vu l u (e_ s3) Q I4 r1 (Heap.IsSliceOf.new ..) pl pu q3
 change wpAny (g_ X) X.A (subscriptTail e (.Slice lo hi b_ p2) v (.ref (e_ s3))) (Y2 Q) X.xe {s3 with heap:=s3.heap.push {cls:=.type "slice",data:=.fields #[vl,vu,.none]} }
 show tail_any (ops:=[.ref (e_ s3),v]) ht hT hg (by with_unfolding_all rfl)
def Fs(xs:x_ V)(lo hi:Zz 0):x_ V:=(xs.drop (W_ 0 lo)).take (W_ xs.length hi-W_ 0 lo)
theorem zD(xs:x_ V)(lo hi:Zz 0):(Fs xs lo hi).length<=xs.length:=by unfold Fs;rw[Xb,List.length_drop];omega
def Tt(K:y0):V->Zz 0->Zz 0->Hp->VK->Prop:=λx lo hi H Q=>∃a xs,x=.ref a/\ZD a xs/\
 ¬ (W_ 0 lo=0/\W_ xs.length hi=xs.length)/\∀p,H p=b_->Q (.ref p) (R_ p (.tup (Fs xs lo hi)))
theorem Rk:SlR X (Tt X.K):=by
 intro FR s σ H x v vl vu lo hi sl Q I rx hs pl pu h;let⟨a,xs,rfl,hx,hw,q⟩:=h;cases rx
 let⟨its,r,ht,hz⟩:=I.tuple hx;let hlen:its.toArray.size=xs.length:=by rw[zb];show r.length.symm
 refine⟨"tuple",_,WA.lookup,ht.typeIs,?_⟩;refine HT.getItem_tuple_cut ht hs pl pu (by rw[hlen];show hw) ?_ (by rw[hlen];show hz);rw[hlen];refine⟨.ref (e_ s),_,I.laid (t':=s.toks) (o:=.tup (Fs xs lo hi)) (λb ob q=>y6 _ q) (zd _) ?_,rfl,q _ (I.hok.fresh (zd _))⟩;show⟨Wu (zD xs lo hi) hz,_,(r.drop (W_ 0 lo)).take (W_ xs.length hi-W_ 0 lo),wR.new _ _⟩
def Qt(K:y0):R2:=λx y H Q=>∃a b xs ys,x=.ref a/\y=.ref b/\ZD a xs/\ZD b ys/\xs≠[]/\xs.length+ys.length<=zf/\
 (ys=[]->Q (.ref a) H)/\(ys≠[]->∀p,H p=b_->Q (.ref p) (R_ p (.tup (xs++ys))))
theorem aS.nil_iff{xs:x_ V}(r:aS xs us):us=[]↔xs=[]:=by
 cases r with
 |nil=>simp
 |cons _ _=>simp
theorem On:Y5 (WU .Add) (Qt X.K):=by
 intro FR s σ H x y v u Q I rx ry h;let⟨a,b,xs,ys,rfl,rfl,ha,hb,hx,hz,q1,q2⟩:=h;cases rx
 cases ry
 let⟨its,r1,p1,_⟩:=I.tuple ha;let⟨bp,r2,p2,_⟩:=I.tuple hb;refine HT.cat_tup p1 p2 (λz=>hx (r1.nil_iff.mp z)) (λz=>⟨.ref a,H,I,rfl,q1 (r2.nil_iff.mp z)⟩) (λz=>?_) (by rw[<-r1.length,<-r2.length];show hz);refine⟨.ref (e_ s),_,I.laid (t':=s.toks) (o:=.tup (xs++ys)) (λb ob q=>y6 _ q) (zd _) ?_,rfl,q2 (λw=>z (r2.nil_iff.mpr w)) _ (I.hok.fresh (zd _))⟩;show⟨by rw[W5];show hz,_,r1.append r2,wR.new _ _⟩
end
def ixN(n:Nat)(i:Int):y_ Nat:=if 0<=i then(if i<n then a_ i.toNat else b_) else if -(n:Int)<=i then a_ (i+n).toNat else b_
def atI{α:Type}(xs:x_ α)(i:Int):y_ α:=(ixN xs.length i).bind λj=>xs[j]?
variable{j n:Nat}
theorem J5{i:Int}(h:ixN n i=a_ j):seqIndex? i n=a_ j/\j<n/\-(n:Int)<=i/\i<n:=by
 unfold ixN at h;by_cases h0:0<=i
 ·rw[if_pos h0]at h;by_cases h1:i<n
  ·rw[if_pos h1]at h;let e:i.toNat=j:=zl h;show⟨by rw[seqIndex_of h0 h1,e],⋯,⋯,h1⟩
  ·rw[if_neg h1]at h;cases h
 ·rw[if_neg h0]at h;by_cases h1:-(n:Int)<=i
  ·rw[if_pos h1]at h;let e:(i+n).toNat=j:=zl h;show⟨by rw[seqIndex_neg ⋯ h1,e],⋯,h1,⋯⟩
  ·rw[if_neg h1]at h;cases h
theorem DN{α:Type}{xs:x_ α}{i:Int}{v:α}(h:atI xs i=a_ v):∃j,seqIndex? i xs.length=a_ j/\xs[j]?=a_ v/\j<xs.length/\-(xs.length:Int)<=i/\i<xs.length:=by
 unfold atI at h;cases e:ixN xs.length i with
 |none=>rw[e]at h;cases h
 |some j=>rw[e]at h;let⟨h1,h2,h3,h4⟩:=J5 e;show⟨j,h1,h,h2,h3,h4⟩
def J6(b:v_):Prop:=∀o i,subscripted b false o i=operate [o,i] (getItem o i)
def IxR(X:Cx)(r:R2):Prop:=
 ∀(value slice:v_)(FR:gV 0)(s:q_)(σ:St)(H:Hp)(x y:V)(v u:qe)(Q:VK),N_ s->Zr v->Z4 u->r x y H Q->
  subscripted slice false v u=operate [v,u] (getItem v u)->wpAny (g_ X) X.A (subscriptTail value slice v u) (Y2 Q) X.xe s
def MtR(X:Cx)(id:String)(r:V->x_ V->Hp->VK->Prop):Prop:=
 ∀(FR:gV 0)(s:q_)(σ:St)(H:Hp)(x:V)(xs:x_ V)(v:qe)(us:ZE 0)(Q:VK),N_ s->Zr v->aS xs us->r x xs H Q->
  wpAny (g_ X) X.A (call (.builtin id) (v::us)) (Y2 Q) X.xe s
variable{ta:TE}{H:Hp}{its its':ZE 0}{FR:gV 0}{s:q_}{σ:St}{A:td}{u:qe}{y:V}{T:String}{ag apos:Pos}{name:Str}{to:TE}{es:x_ v_}
section
variable{a b:v_}{tb:TE}
theorem IxR.or{r r':R2}(h:IxR X r)(h':IxR X r'):IxR X (λx y H Q=>r x y H Q\/r' x y H Q):=by
 intro value slice FR s σ H x y v u Q I rx ry q hs;rcases q with q|q
 ·show h value slice FR s σ H x y v u Q I rx ry q hs
 ·show h' value slice FR s σ H x y v u Q I rx ry q hs
theorem Tu{r:R2}(hr:IxR X r)(ha:Zx a ta)(hb:Zx b tb)(hs:J6 b):Zx (.Subscript a b pos) (tOp r ta tb):=by intro FR s σ H Q I h;show Subscript_ (R8 ha hb I h λv u s2 x y H2 I2 rx ry q=>hr a b FR s2 σ H2 x y v u Q I2 rx ry q (hs _ _))
def Ve(K:y0):R2:=λx y H Q=>∃p xs i v,x=.ref p/\y=.int i/\ZI p xs/\atI xs i=a_ v/\Q v H
def Vf(K:y0):R2:=λx y H Q=>∃p xs i v,x=.ref p/\y=.int i/\ZD p xs/\atI xs i=a_ v/\Q v H
def Vg:R2:=λx y H Q=>∃z i c,x=.str z/\y=.int i/\z.length<=zf/\atI z.cps.toList i=a_ c/\Q (.str ⟨#[c]⟩) H
theorem Oo:IxR X (Ve X.K):=by
 intro value slice FR s σ H x y v u Q I rx ry h hs;let⟨p,xs,i,z,rfl,rfl,hq,he,q⟩:=h;cases rx
 let⟨t,rfl⟩:=ry;let⟨its,r,pl,hz⟩:=I.list hq;let⟨j,h1,h2,h3,h4,h5⟩:=DN he;let⟨w,ew,cf⟩:=r.get h2;let hl:=r.length;let hn:=sU;let fin:Y2 Q w s:=⟨z,H,I,cf,q⟩;by_cases h0:0<=i
 ·let hj:i.toNat=j:=by rw[seqIndex_of h0 h5]at h1;show zl h1
  show item_listR pl.isList h0 ⋯ (by rw[hj];simpa using ew) fin hs
 ·let hj:(i+(its.toArray.size:Int)).toNat=j:=by rw[seqIndex_neg ⋯ h4]at h1;rw[zb,<-hl];show zl h1
  show subscriptTail_builtinR (x:=w) pl.isList.typeIs slot_list_getitem.lookup
   (wpAny_getItem_list_neg (Q:=λr s'=>r=w/\Y2 Q r s') pl.isList ⋯ (by rw[zb] <;> omega) ⋯ (by rw[hj];simpa using ew) ⟨rfl,fin⟩) hs
theorem Rl:IxR X (Vf X.K):=by
 intro value slice FR s σ H x y v u Q I rx ry h hs;let⟨p,xs,i,z,rfl,rfl,hq,he,q⟩:=h;cases rx
 let⟨t,rfl⟩:=ry;let⟨its,r,pl,hz⟩:=I.tuple hq;let⟨j,h1,h2,h3,h4,h5⟩:=DN he;let⟨w,ew,cf⟩:=r.get h2;let hl:=r.length;let hn:=sU;let fin:Y2 Q w s:=⟨z,H,I,cf,q⟩;show subscriptTail_builtinR (x:=w) pl.typeIs slot_tuple_getitem.lookup
  (getItem_tuple (j:=j) (Q:=λr s'=>r=w/\Y2 Q r s') pl ⋯ ⋯ (by rw[zb,<-hl];show h1) (ke ew) ⟨rfl,fin⟩) hs
theorem Rm:IxR X Vg:=by
 intro value slice FR s σ H x y v u Q I rx ry h hs;let⟨z,i,c,rfl,rfl,hz,he,q⟩:=h;let⟨t,rfl⟩:=rx;let⟨t',rfl⟩:=ry;let⟨j,h1,h2,h3,h4,h5⟩:=DN he;let hl:z.cps.toList.length=z.length:=by simp[Yc]
 rw[hl]at h1 h4 h5;let hn:=sU;show tail_any (typeIs_str s z t) slot_str_getitem.lookup (getItem_str (c:=c) (by let e1:decide (i < -(2 ^ 63:Int))=false:=decide_eq_false ⋯;let e2:decide (i >= 2 ^ 63)=false:=decide_eq_false ⋯;rw[e1,e2,Bool.or_false]) (by rw[h1];simpa using h2) ⟨.str ⟨#[c]⟩,H,Zy 0,⟨_,rfl⟩,q⟩) hs
theorem Hu(its:ZE 0)(n j:Nat)(u:qe):Wg (·.setIfInBounds j u) {cls:=.type "list",data:=.seq its.toArray n}={cls:=.type "list",data:=.seq (its.set j u).toArray n}:=by simp[Wg]
theorem Inv.lst{FR:gV 0}{σ:St}{H:Hp}{s:q_}{p:r_}{xs:x_ V}(I:N_ s)(h:H p=a_ (.lst xs)):
  ∃(its:ZE 0)(n:Nat),aS xs its/\s.heap.get? p=a_ {cls:=.type "list",data:=.seq its.toArray n}/\xs.length<=zf:=by
 let⟨z,its,n,r,e⟩:=I.hok p _ h;show⟨its,n,r,e,z⟩
theorem Inv.lstUpd{p:r_}{xs ys:x_ V}{n':Nat}{f:Obj->Obj}(I:N_ s)(h:H p=a_ (.lst xs))(ho:s.heap.get? p=a_ {cls:=.type "list",data:=.seq its.toArray n})(hf:f {cls:=.type "list",data:=.seq its.toArray n}={cls:=.type "list",data:=.seq its'.toArray n'})(r:aS ys its')(hz:ys.length<=zf)(t:Nat):
  h_ (R_ p (.lst ys)) {s with heap:=s.heap.update p f,toks:=t}:=by
 let e:(s.heap.update p f).get? p=a_ {cls:=.type "list",data:=.seq its'.toArray n'}:=by rw[W1 f ho (by rw[hf] <;> rfl),hf]
 refine I.write (x:=p) (e:=p) (by rw[h];trivial) (.inl rfl) (λb u hb q=>(Heap.get?_update_other _ _ (Yw hb)).trans q) ⟨_,e⟩ ?_;show⟨hz,its',n',r,e⟩
def Tv:V->V->V->Hp->(Hp->Prop)->Prop:=λo i v H Q=>∃p xs k j,o=.ref p/\i=.int k/\H p=a_ (.lst xs)/\ixN xs.length k=a_ j/\Q (R_ p (.lst (xs.set j v)))
theorem set_list:V6 X Tv:=by
 intro FR s σ H o i v ov iv u Q I ro ri rv h;let⟨p,xs,k,j,rfl,rfl,hp,hj,q⟩:=h;cases ro
 let⟨t,rfl⟩:=ri;let⟨its,n,r,ho,hz⟩:=I.lst hp;let⟨h1,h2,h3,h4⟩:=J5 hj;let hl:=r.length;let hn:=sU;let I':h_ (R_ p (.lst (xs.set j v))) {s with heap:=s.heap.update p (Wg (·.setIfInBounds j u))}:=I.lstUpd hp ho (Hu its n j u) (r.set rv j) (by rw[W6];show hz) s.toks;by_cases h0:0<=k
 ·let hk:k.toNat=j:=by rw[seqIndex_of h0 h4]at h1;show zl h1
  show PySem.W.ki_setAt ho h0 ⋯ (by rw[zb,<-hl];show h4) (by rw[hk];show⟨_,I',q⟩)
 ·let hk:(k+(its.toArray.size:Int)).toNat=j:=by rw[seqIndex_neg ⋯ h3]at h1;rw[zb,<-hl];show zl h1
  show PySem.W.ki_setBack ho ⋯ (by rw[zb,<-hl];show h3) ⋯ (by rw[hk];show⟨_,I',q⟩)
theorem DP(lo hi:Zz 0)(n:Nat):(sliceBounds lo hi b_ n).1=((HT.sIx n 0 lo:Nat):Int)/\(sliceBounds lo hi b_ n).2.1=((HT.sIx n n hi:Nat):Int)/\(sliceBounds lo hi b_ n).2.2=1:=by
 refine⟨?_,?_,rfl⟩
 ·cases lo with
  |none=>simp[sliceBounds,HT.sIx]
  |some i=>
   simp only[sliceBounds,HT.sIx,Option.getD_none,show(1:Int)>0 by decide,if_true]
   by_cases h:i<0
   ·simp only[h,if_true] <;> omega
   ·simp only[h,if_false] <;> omega
 ·cases hi with
  |none=>simp[sliceBounds,HT.sIx]
  |some i=>
   simp only[sliceBounds,HT.sIx,Option.getD_none,show(1:Int)>0 by decide,if_true]
   by_cases h:i<0
   ·simp only[h,if_true] <;> omega
   ·simp only[h,if_false] <;> omega
theorem Cu(its:ZE 0)(lo hi:Zz 0):slicePick its.toArray lo hi b_=((its.drop (HT.sIx its.length 0 lo)).take (HT.sIx its.length its.length hi-HT.sIx its.length 0 lo)).toArray:=by let⟨h1,h2,h3⟩:=DP lo hi its.toArray.size;unfold slicePick;rw[h1,h2,h3];simp only[sliceRange_one,pick_run,zb] <;> rfl
def Tw(K:y0):V->Zz 0->Zz 0->Hp->VK->Prop:=λx lo hi H Q=>∃a xs,x=.ref a/\ZI a xs/\∀p,H p=b_->Q (.ref p) (R_ p (.lst (Fs xs lo hi)))
theorem Oq:SlR X (Tw X.K):=by
 intro FR s σ H x v vl vu lo hi sl Q I rx hs pl pu h;let⟨a,xs,rfl,hx,q⟩:=h;cases rx
 let⟨its,r,ht,hz⟩:=I.list hx;let hlen:=r.length;refine⟨"list",_,slot_list_getitem.lookup,ht.isList.typeIs,?_⟩;refine wpAny_getItem_list_slice ht.isList hs pl pu .none (by simp) ?_ (by rw[zb] <;> omega);rw[Cu,<-hlen];refine⟨.ref (e_ s),_,I.laid (t':=s.toks) (o:=.lst (Fs xs lo hi)) (λb ob q=>y6 _ q) (zd _) ?_,rfl,q _ (I.hok.fresh (zd _))⟩;show⟨Wu (zD xs lo hi) hz,_,0,(r.drop (W_ 0 lo)).take (W_ xs.length hi-W_ 0 lo),ZL 0⟩
def zE:V->Bool
 |.non=>true
 |.bl _=>true
 |.int _=>true
 |.str _=>true
 |_=>false
def eqV:V->V->Bool
 |.non,.non=>true
 |.bl a,.bl b=>a == b
 |.bl a,.int b=>(if a then 1 else 0) == b
 |.int a,.bl b=>a == (if b then 1 else 0)
 |.int a,.int b=>a == b
 |.str a,.str b=>a == b
 |_,_=>false
theorem Rn{x:V}{v:qe}(ry:Z4 u)(rx:Zr v)(fy:zE y=true)(fx:zE x=true):SeqAt.EqAt A s u v (eqV y x):=by
 cases y with
 |non=>
  cases ry
  cases x with
  |non=>cases rx;show SeqAt.EqAt.same _
  |bl b=>cases rx;show SeqAt.EqAt.none_bool b
  |int b=>let⟨t,rfl⟩:=rx;show SeqAt.EqAt.none_int b t
  |str b=>let⟨t,rfl⟩:=rx;show SeqAt.EqAt.none_str b t
  |_=>exact absurd (show false=true from fx) zj
 |bl a=>
  cases ry
  cases x with
  |non=>cases rx;show SeqAt.EqAt.bool_none a
  |bl b=>cases rx;show SeqAt.EqAt.bool_bool a b
  |int b=>let⟨t,rfl⟩:=rx;show SeqAt.EqAt.bool_int a b t
  |str b=>let⟨t,rfl⟩:=rx;show SeqAt.EqAt.bool_str a b t
  |_=>exact absurd (show false=true from fx) zj
 |int a=>
  let⟨t',rfl⟩:=ry;cases x with
  |non=>cases rx;show SeqAt.EqAt.int_none a t'
  |bl b=>cases rx;show SeqAt.EqAt.int_bool a t' b
  |int b=>let⟨t,rfl⟩:=rx;show SeqAt.EqAt.int_int a t' b t
  |str b=>let⟨t,rfl⟩:=rx;show SeqAt.EqAt.int_str a t' b t
  |_=>exact absurd (show false=true from fx) zj
 |str a=>
  let⟨t',rfl⟩:=ry;cases x with
  |non=>cases rx;show SeqAt.EqAt.str_none a t'
  |bl b=>cases rx;show SeqAt.EqAt.str_bool a t' b
  |int b=>let⟨t,rfl⟩:=rx;show SeqAt.EqAt.str_int a t' b t
  |str b=>let⟨t,rfl⟩:=rx;show SeqAt.EqAt.str_str a t' b t
  |_=>exact absurd (show false=true from fx) zj
 |_=>exact absurd (show false=true from fy) zj
def eqU(x:V)(u:qe):Bool:=match u with
 |.none=>eqV .non x
 |.bool b=>eqV (.bl b) x
 |.int i _=>eqV (.int i) x
 |.str z _=>eqV (.str z) x
 |_=>false
theorem LC{x:V}(r:Z4 u)(f:zE y=true):eqU x u=eqV y x:=by
 cases y with
 |non=>cases r;rfl
 |bl b=>cases r;rfl
 |int i=>let⟨t,rfl⟩:=r;rfl
 |str z=>let⟨t,rfl⟩:=r;rfl
 |_=>exact absurd (show false=true from f) zj
theorem uQ{x:V}:∀{xs:x_ V}{us:ZE 0},aS xs us->xs.all zE=true->us.any (eqU x)=xs.any λy=>eqV y x
 |_,_,.nil,_=>rfl
 |y::xs,u::us,.cons r t,f=>by rw[Xq,zp]at f;rw[Ys,Ys,LC r f.1,uQ t f.2]
theorem pV{A:td}{s:q_}{x:V}{v:qe}(rx:Zr v)(fx:zE x=true):∀{xs:x_ V}{us:ZE 0},aS xs us->xs.all zE=true->∀u∈us,SeqAt.EqAt A s u v (eqU x u)
 |_,_,.nil,_=>λu hu=>by cases hu
 |y::xs,u::us,.cons r t,f=>λu' hu=>by
  rw[Xq,zp]at f;rcases zq.mp hu with rfl|hu
  ·rw[LC r f.1];show Rn r rx f.1 fx
  ·show pV rx fx t f.2 u' hu
def inV(x:V)(xs:x_ V):Bool:=xs.any λy=>eqV y x
def rIn(K:y0)(neg:Bool):R2:=λx y H Q=>∃p xs,y=.ref p/\(ZI p xs\/ZD p xs)/\zE x=true/\xs.all zE=true/\Q (.bl (if neg then !inV x xs else inV x xs)) H
theorem K4:Y5 (VX .In) (rIn X.K false):=by
 intro FR s σ H x y v u Q I rx ry h;let⟨p,xs,rfl,hq,fx,fs,q⟩:=h;cases ry
 rcases hq with hq|hq
 ·let⟨its,r,pl,hz⟩:=I.list hq;refine SeqAt.in_listAt (eqU x) pl.isList (λw hw=>pV rx fx r fs w (ke hw)) ⟨.bl _,H,I,rfl,?_⟩;rw[show its.toArray.any (eqU x)=its.any (eqU x) by simp,uQ r fs];show q
 ·let⟨its,r,pl,hz⟩:=I.tuple hq;refine SeqAt.in_tupleAt (eqU x) pl (λw hw=>pV rx fx r fs w (ke hw)) ⟨.bl _,H,I,rfl,?_⟩;rw[show its.toArray.any (eqU x)=its.any (eqU x) by simp,uQ r fs];show q
theorem DQ:Y5 (VX .NotIn) (rIn X.K true):=by
 intro FR s σ H x y v u Q I rx ry h;let⟨p,xs,rfl,hq,fx,fs,q⟩:=h;cases ry
 rcases hq with hq|hq
 ·let⟨its,r,pl,hz⟩:=I.list hq;refine SeqAt.notIn_listAt (eqU x) pl.isList (λw hw=>pV rx fx r fs w (ke hw)) ⟨.bl _,H,I,rfl,?_⟩;rw[show its.toArray.any (eqU x)=its.any (eqU x) by simp,uQ r fs];show q
 ·let⟨its,r,pl,hz⟩:=I.tuple hq;refine SeqAt.notIn_tupleAt (eqU x) pl (λw hw=>pV rx fx r fs w (ke hw)) ⟨.bl _,H,I,rfl,?_⟩;rw[show its.toArray.any (eqU x)=its.any (eqU x) by simp,uQ r fs];show q
theorem DR:eL X (.builtin "len") (λxs H Q=>∃p ys,xs=[.ref p]/\(SqL X.K H p ys\/SqT X.K H p ys)/\Q (.int ys.length) H):=by
 intro FR s σ H xs us Q I r h;let⟨p,ys,rfl,hq,q⟩:=h;let⟨u,rfl,rx⟩:=vals1 r;cases rx
 let hn:=sU;rcases hq with hq|hq
 ·let⟨its,r',pl,hz⟩:=I.list hq;let hlen:=r'.length;show Calls.call_len_list pl.isList (by simp only[zb] <;> omega) ⟨.int ys.length,H,Zy 0,⟨s.toks+1,by rw[zb,hlen]⟩,q⟩
 ·let⟨its,r',pl,hz⟩:=I.tuple hq;let hlen:=r'.length;show len_tuple pl (by simp only[zb] <;> omega) ⟨.int ys.length,H,Zy 0,⟨s.toks+1,by rw[zb,hlen]⟩,q⟩
theorem eL.or{f:qe}{r r':x_ V->Hp->VK->Prop}(h:eL X f r)(h':eL X f r'):eL X f (λxs H Q=>r xs H Q\/r' xs H Q):=by
 intro FR s σ H xs us Q I rs q;rcases q with q|q
 ·show Zd xs us Q I rs q
 ·show h' FR s σ H xs us Q I rs q
theorem DS:eL X (.type "list") (λxs H Q=>∃p ys,xs=[.ref p]/\(SqL X.K H p ys\/SqT X.K H p ys)/\∀l,H l=b_->Q (.ref l) (R_ l (.lst ys))):=by
 intro FR s σ H xs us Q I r h;let⟨p,ys,rfl,hq,q⟩:=h;let⟨u,rfl,rx⟩:=vals1 r;cases rx
 let fin:∀(its:ZE 0),aS ys its->ys.length<=zf->∀(h':t_)(c':Nat),(∀b o',Y1 0=a_ o'->ZW 0=a_ o')->
   h'.get? (e_ s)=a_ {cls:=.type "list",dict:=b_,data:=.seq its.toArray c',slots:=#[]}->Y2 Q (.ref (e_ s)) {s with heap:=h'}:=λits r' hz h' c' kp e=>
  ⟨.ref (e_ s),_,I.laid (t':=s.toks) kp (zd _) (show Zj _ h' _ (.lst ys) from⟨hz,its,c',r',e⟩),rfl,q _ (I.hok.fresh (zd _))⟩
 rcases hq with hq|hq
 ·let⟨its,r',pl,hz⟩:=I.list hq;let hlen:=r'.length;let⟨o,ho,hc,n,hd⟩:=pl.isList;show call_list_seq p (.inl rfl) ho hc hd (λh' c' kp e=>fin its r' hz h' c' kp e) (by simp only[zb] <;> omega)
 ·let⟨its,r',pl,hz⟩:=I.tuple hq;let hlen:=r'.length;let⟨o,ho,hc,n,hd⟩:=pl;show call_list_seq p (.inr rfl) ho hc hd (λh' c' kp e=>fin its r' hz h' c' kp e) (by simp only[zb] <;> omega)
theorem Cv:eL X (.type "tuple") (λxs H Q=>∃p ys,xs=[.ref p]/\((SqL X.K H p ys/\∀l,H l=b_->Q (.ref l) (R_ l (.tup ys)))\/(SqT X.K H p ys/\Q (.ref p) H))):=by
 intro FR s σ H xs us Q I r h;let⟨p,ys,rfl,h⟩:=h;let⟨u,rfl,rx⟩:=vals1 r;cases rx
 rcases h with⟨hq,q⟩|⟨hq,q⟩
 ·let⟨its,r',pl,hz⟩:=I.list hq;let hlen:=r'.length;refine call_tuple_list pl.isList (λh' kp=>?_) (by simp only[zb] <;> omega);let I1:N_ {s with heap:=h'}:=I.kept (t':=s.toks) kp;let I2:h_ (R_ h'.objs.size (.tup ys)) {s with heap:=h'.push {cls:=.type "tuple",data:=.seq its.toArray} }:=I1.laid (t':=s.toks) (λb o e=>y6 _ e) (zd _) (show Zj _ _ _ (.tup ys) from⟨hz,its,r',wR.new _ _⟩)
  show⟨.ref h'.objs.size,_,I2,rfl,q _ (I1.hok.fresh (zd _))⟩
 ·let⟨its,r',pl,hz⟩:=I.tuple hq;show call_tuple_same pl ⟨.ref p,H,I,rfl,q⟩
def tyV(K:y0)(T:String)(x:V)(H:Hp):Prop:=match x with
 |.str _=>T="str"
 |.int _=>T="int"
 | .ref p=>(T="list" /\ ∃ xs,ZI p xs)\/(T="tuple" /\ ∃ o,K.lookup p=a_ o/\o.cls=.type "tuple" /\ o.dict=b_)\/
   (T="dict" /\ ((∃kvs,H p=a_ (.dK kvs))\/∃kvs,H p=a_ (.dT kvs)))\/(T="set" /\ ∃S n,H p=a_ (.set S n))
 |_=>False
theorem LD{x:V}{v:qe}(I:N_ s)(r:Zr v)(ty:tyV X.K T x H):
  s.TypeIs v T/\∀a,v=.ref a->∃ob,s.heap.get? a=a_ ob/\ob.dict=b_:=by
 cases x with
 |str z=>
  let⟨t,rfl⟩:=r;cases(show T="str" from ty)
  show⟨typeIs_str s z t,λ_ e=>nomatch e⟩
 |int i=>
  let⟨t,rfl⟩:=r;cases(show T="int" from ty)
  show⟨typeIs_int s i t,λ_ e=>nomatch e⟩
 |ref p=>
  cases r
  rcases ty with⟨rfl,xs,hq⟩|⟨rfl,o,hk,hc,hd⟩|⟨rfl,hk⟩|⟨rfl,S,n,hk⟩
  ·let⟨its,_,pl,_⟩:=I.list hq;refine⟨pl.isList.typeIs,λa e=>?_⟩;cases e
   let⟨o,n,e,c,hd,_⟩:=pl;show⟨o,e,hd⟩
  ·refine⟨⟨o,I.kIn p o hk,hc⟩,λa e=>?_⟩;cases e
   show⟨o,I.kIn _ o hk,hd⟩
  ·let z:∃o,s.heap.get? p=a_ o/\o.ExactDict:=by
    rcases hk with⟨kvs,hk⟩|⟨kvs,hk⟩
    ·let⟨_,_,_,_,o,_,_,e,ex,_⟩:=I.hok p _ hk;show⟨o,e,ex⟩
    ·let⟨_,_,_,_,o,_,_,e,ex,_⟩:=I.hok p _ hk;show⟨o,e,ex⟩
   let⟨o,e,ex⟩:=z;refine⟨⟨o,e,ex.1⟩,λa e2=>?_⟩;cases e2
   show⟨o,e,ex.2.1⟩
  ·let⟨o,_,_,_,e,ex,_⟩:=I.hok p _ hk;refine⟨⟨o,e,ex.1⟩,λa e2=>?_⟩;cases e2
   show⟨o,e,ex.2.1⟩
 |_=>exact Xh ty
def Vh(K:y0)(T:String)(r:V->x_ V->Hp->VK->Prop)(to:TE):TE:=λσ H Q=>to σ H λx H1=>tyV K T x H1/\r x [] H1 Q
def tBM(K:y0)(T:String)(r:V->x_ V->Hp->VK->Prop)(to:TE)(t:TA):TE:=λσ H Q=>to σ H λx H1=>tyV K T x H1/\t σ H1 λxs H2=>r x xs H2 Q
variable{o:v_}{t:TA}{id:String}{r:V->x_ V->Hp->VK->Prop}
theorem Ro(pa:PlainAttrs T)(slot:Slot T name id)(d5:typeOf (.builtin id)=pure (.type "method_descriptor"))(hm:MtR X id r)(ho:Zx o to)
  (av:XF o name X.env (ZM 0)=ZM 0:=by rfl) (au:(apos.endLine == ag.line)=true:=by rfl):Zx (.Call (.Attribute o name apos) [] [] ag) (Vh X.K T r to):=by
 intro FR s σ H Q I h;refine wpAny_Call_method0_late av au (thn (ho FR s σ H _ I h) λv s1 hz=>?_);let⟨x,H1,I1,r1,ty,q1⟩:=hz;let⟨h1,h2⟩:=LD I1 r1 ty;show⟨T,id,pa,slot,d5,h1,h2,Ye rfl (PySem.evalArgs_none (hm FR s1 σ H1 x [] v [] Q I1 r1 .nil q1))⟩
theorem Tx(pa:PlainAttrs T)(slot:Slot T name id)(d5:typeOf (.builtin id)=pure (.type "method_descriptor"))(hm:MtR X id r)(ho:Zx o to)(ha:PA X (e::es) t)
  (av:XF o name X.env (ZM 0)=ZM 0:=by rfl)
  (dr:((backTo ag (zw (e::es) X.env)).all (λx=>!x.1)&&(backToKw ag (keywordEach [] X.env)).all (λx=>x.1.isSome)
   && decide ((e::es).length+([]:x_ Keyword).length+(if([]:x_ Keyword).isEmpty then 0 else 1)<30))=true:=by rfl)
  (au:(apos.endLine == ag.line)=true:=by rfl) (hs:zw (e::es) X.env=(false,X_ 0)::U_ 0:=by rfl) (bj:(backTo ag (U_ 0)).any (·.1)=false:=by rfl):
  Zx (.Call (.Attribute o name apos) (e::es) [] ag) (tBM X.K T r to t):=by
 intro FR s σ H Q I h;refine wpAny_Call_method_late av dr au rfl (thn (ho FR s σ H _ I h) λv s1 hz=>?_);let⟨x,H1,I1,r1,ty,q1⟩:=hz;let⟨h1,h2⟩:=LD I1 r1 ty;refine⟨T,id,pa,slot,d5,h1,h2,?_⟩;let hA:=ha ag FR s1 σ H1 _ I1 q1;rw[hs]at hA⊢;refine Ye (by change(false || (backTo ag (U_ 0)).any (·.1))=false;rw[bj] <;> rfl) (Calls.evalArgs_plain ?_);show thn hA λus s2 ⟨vs,H2,I2,r2,q2⟩=>hm FR s2 σ H2 x vs v us Q I2 r1 r2 q2
end
def MtM(X:Cx)(id:String)(r:V->x_ V->Hp->VK->Prop):Prop:=
 ∀(FR:gV 0)(s:q_)(σ:St)(H:Hp)(x:V)(xs:x_ V)(v:qe)(us:ZE 0)(Q:VK),N_ s->Zr v->aS xs us->r x xs H Q->
  wpAny (g_ X) X.A (call (.builtin id) (v::us)) (Y2 Q) X.xe s
theorem aS.one:∀{x:V}{us:ZE 0},aS [x] us->∃u,us=[u]/\Zr u
 |_,_,.cons r .nil=>⟨_,rfl,r⟩
theorem aS.zero:∀{us:ZE 0},aS [] us->us=[]
 |_,.nil=>rfl
theorem aS.dropLast{xs:x_ V}(h:aS xs us):aS xs.dropLast us.dropLast:=by
 induction h with
 |nil=>exact .nil
 |cons r t ih=>
  cases t with
  |nil=>exact .nil
  |cons q t'=>exact .cons r ih
theorem Hv{α:Type}(l:x_ α):l.eraseIdx (l.length-1)=l.dropLast:=by
 induction l with
 |nil=>rfl
 |cons a r ih=>
  cases r with
  |nil=>rfl
  |cons b r=>
   let e:(a::b::r).length-1=((b::r).length-1)+1:=by let h1:(a::b::r).length=r.length+2:=rfl;let h2:(b::r).length=r.length+1:=rfl;omega
   rw[e,List.eraseIdx_cons_succ,ih]
   all_goals rfl
variable{t':Nat}
section
variable{l b:r_}{xs ys zs:x_ V}
theorem Inv.lset{f:Y6 0->Y6 0}(I:N_ s)(hH:H l=a_ (.lst xs))(e:s.heap.get? l=a_ {cls:=.type "list",data:=.seq its.toArray n})(hf:f its.toArray=its'.toArray)(hv:aS ys its')(hz:ys.length<=zf):
  h_ (R_ l (.lst ys)) {s with heap:=s.heap.update l (Wg f),toks:=t'}:=by
 let q:=PySem.IsL.update e f;rw[hf]at q;refine I.write (x:=l) (e:=l) (by rw[hH];show trivial) (.inl rfl) (λb' u hb hu=>(Heap.get?_update_other s.heap (Wg f) (Yw hb)).trans hu) ⟨_,q⟩ ?_;show⟨hz,its',_,hv,q⟩
theorem Inv.lnew(I:N_ s)(hv:aS ys its)(hz:ys.length<=zf):
  h_ (R_ (e_ s) (.lst ys)) {s with heap:=s.heap.push {cls:=.type "list",data:=.seq its.toArray},toks:=t'}:=
 I.laid (λ_ _ q=>y6 _ q) (zd _) ⟨hz,its,0,hv,ZL 0⟩
theorem Inv.fresh(I:N_ s):H (e_ s)=b_:=I.hok.fresh (zd _)
theorem Inv.lstM(I:N_ s)(hH:H l=a_ (.lst xs)):xs.length<=zf/\∃(its:ZE 0)(n:Nat),aS xs its/\xs.length=its.length/\s.heap.get? l=a_ {cls:=.type "list",data:=.seq its.toArray n}:=by let⟨z,its,n,r,e⟩:=I.hok l _ hH;show⟨z,its,n,r,r.length,e⟩
theorem LF(h:n<=zf):YL n=false:=by unfold YL;show decide_eq_false ⋯
end
def J7:V->x_ V->Hp->VK->Prop:=λx vs H Q=>∃l xs y,x=.ref l/\vs=[y]/\H l=a_ (.lst xs)/\xs.length<zf/\Q .non (R_ l (.lst (xs++[y])))
theorem CT:MtM X "list.append" J7:=by
 intro FR s σ H x vs v us Q I rx rv h;let⟨l,xs,y,rfl,rfl,hH,hz,q⟩:=h;cases rx
 let⟨u,rfl,ru⟩:=rv.one;let⟨z,its,n,r,hl,e⟩:=I.lstM hH;refine call_meets F.slot_list_append ⟨_,e,rfl⟩ F.entry_list_append (F.args_list_append_2 _ _) (PySem.list_append l its.toArray n u (by rw[zb];omega)) ⟨e,?_⟩;refine⟨.non,_,I.lset (its':=its++[u]) hH e (by simp) (r.append (.cons ru .nil)) ?_,rfl,q⟩;rw[W5,List.length_singleton];omega
def J8:V->x_ V->Hp->VK->Prop:=λx vs H Q=>∃l b xs zs,x=.ref l/\vs=[.ref b]/\H l=a_ (.lst xs)/\H b=a_ (.lst zs)/\xs.length+zs.length<=zf/\Q .non (R_ l (.lst (xs++zs)))
theorem K5:MtM X "list.extend" J8:=by
 intro FR s σ H x vs v us Q I rx rv h;let⟨l,b,xs,zs,rfl,rfl,hH,hB,hz,q⟩:=h;cases rx
 let⟨u,rfl,ru⟩:=rv.one;cases ru
 let⟨z,its,n,r,hl,e⟩:=I.lstM hH;let⟨z2,bp,n2,r2,cy,e2⟩:=I.lstM hB;let hsz:its.toArray.size+bp.toArray.size<=zf:=by rw[zb,zb];omega
 let mx:¬ (!its.toArray.isEmpty&&YL (its.toArray.size+bp.toArray.size))=true:=by rw[LF hsz,Bool.and_false];show zj
 refine call_meets F.slot_list_extend ⟨_,e,rfl⟩ F.entry_list_extend (F.args_list_extend_2 _ _)
  (AutoSeq1.list_extend_list_list_0 l its.toArray n b bp.toArray n2 mx (by rw[zb];omega) ⋯) ⟨e,e2,?_⟩
 refine⟨.non,_,I.lset (its':=its++bp) hH e (by simp) (r.append r2) ?_,rfl,q⟩;rw[W5];omega
def Tz:V->x_ V->Hp->VK->Prop:=λx vs H Q=>∃l xs y,x=.ref l/\vs=[]/\H l=a_ (.lst xs)/\xs[xs.length-1]?=a_ y/\Q y (R_ l (.lst xs.dropLast))
theorem Rp:MtM X "list.pop" Tz:=by
 intro FR s σ H x vs v us Q I rx rv h;let⟨l,xs,y,rfl,rfl,hH,hy,q⟩:=h;cases rx
 let qp:=rv.zero;subst qp;let⟨z,its,n,r,hl,e⟩:=I.lstM hH;let⟨u,hu,ru⟩:=r.get hy;let e9:its.toArray[its.toArray.size-1]?=a_ u:=by
  change its.toArray[its.length-1]?=a_ u
  rw[<-Array.getElem?_toList,<-hl];show hu
 refine call_meets F.slot_list_pop ⟨_,e,rfl⟩ F.entry_list_pop (F.args_list_pop_1 _) (MeetsSeq.list_pop_last l its.toArray n u e9 (by rw[zb];omega)) ⟨e,?_⟩;refine⟨y,_,I.lset (its':=its.dropLast) hH e ?_ r.dropLast ?_,ru,q⟩
 ·change its.toArray.eraseIdxIfInBounds (its.toArray.size-1)=its.dropLast.toArray
  rw[zb,List.eraseIdxIfInBounds_toArray,Hv]
 ·rw[List.length_dropLast];omega
def LG:V->x_ V->Hp->VK->Prop:=λx vs H Q=>∃l xs,x=.ref l/\vs=[]/\H l=a_ (.lst xs)/\Q .non (R_ l (.lst []))
theorem LH:MtM X "list.clear" LG:=by
 intro FR s σ H x vs v us Q I rx rv h;let⟨l,xs,rfl,rfl,hH,q⟩:=h;cases rx
 let qp:=rv.zero;subst qp;let⟨z,its,n,r,hl,e⟩:=I.lstM hH;refine call_meets F.slot_list_clear ⟨_,e,rfl⟩ F.entry_list_clear (F.args_list_clear_1 _) (AutoSeq1.list_clear_list_0 l its.toArray n (by rw[zb];omega)) ⟨e,?_⟩;show⟨.non,_,I.lset (its':=[]) (ys:=[]) hH e rfl .nil (z8 _),rfl,q⟩
def TB:R2:=λx y H Q=>∃l b xs zs,x=.ref l/\y=.ref b/\H l=a_ (.lst xs)/\H b=a_ (.lst zs)/\xs.length+zs.length<=zf/\∀p,H p=b_->Q (.ref p) (R_ p (.lst (xs++zs)))
theorem Rq:Y5 (WU .Add) TB:=by
 intro FR s σ H x y v u Q I rx ry h;let⟨l,b,xs,zs,rfl,rfl,hH,hB,hz,q⟩:=h;cases rx
 cases ry
 let⟨z,its,n,r,hl,e⟩:=I.lstM hH;let⟨z2,bp,n2,r2,cy,e2⟩:=I.lstM hB;refine PySem.P.add_list e e2 ?_ (by rw[zb,zb];omega);let ea:its.toArray++bp.toArray=(its++bp).toArray:=by simp
 rw[ea];show⟨.ref _,_,I.lnew (t':=s.toks) (r.append r2) (by rw[W5];omega),rfl,q _ I.fresh⟩
end L2
namespace Att
open PySem PySem.W PySem.Calls PyProof.Rows
variable{P:Params}{h:t_}
theorem A1:∀(ns:x_ Int)(vs:ZE 0),WellAll P h vs (ns.map WData.int)->IntsAre vs ns:=by
 intro ns
 induction ns with
 |nil=>
  intro vs w;rw[List.map_nil]at w;cases w
  show .nil
 |cons n ns ih=>
  intro vs w;rw[zg]at w;cases w with
  |cons a b=>
   cases a
   show .cons _ _ (ih _ b)
variable{args:x_ WData}{l:OpenLaw}{n:Nat}{vals:ZE 0}
theorem K6(hn:l.most=a_ n)(gj:l.row.toRowW.claim.pre args=true)(oz:WellAll P h vals args):
  ∃a vs ns,vals=[Wh a]/\args=[WData.list (ns.map WData.int)]/\h.get? a=a_ {cls:=.type "list",data:=.seq vs.toArray}/\IntsAre vs ns/\ns.length<=n:=by
 let hsh:WShape.hasAll [] args [.list .int]=true:=(pre_splitW gj).1;let hc:l.pre.holds [] { args:=args}=true:=(pre_splitW gj).2;let⟨d,r,rfl,h1,h2⟩:=hasAllW_cons hsh;obtain rfl:=hasAllW_nil h2;let⟨xs,rfl,h3⟩:=hasW_list h1;let⟨ns,rfl⟩:=items_int h3;let hlen:ns.length<=n:=by
  unfold OpenLaw.pre at hc;let h4:(WTm.not (.lt (.lit (.int (n:Int))) (.len (.arg 0)))).holds [] { args:=[.list (ns.map .int)]}=true:=by let h4:=(holds_andW hc).1;rw[hn]at h4;show h4
  let h5:=condW_of h4 (w_not (w_lt w_lit (w_len_list (w_arg rfl))));rw[za]at h5;refine Nat.le_of_not_lt λq=>?_;let q':(n:Int)<((ns.length:Nat):Int):=⋯
  first
   |(rw[decide_eq_true q']at h5;show absurd h5 nofun)
   |(simp at h5;omega)
 cases oz with
 |cons w1 w2=>
  cases w2
  cases w1 with
  |list ho hall=>exact⟨_,_,ns,rfl,rfl,ho,A1 ns _ hall,hlen⟩
theorem K7(l:OpenLaw)(args:x_ WData):l.row.toRowW.claim.post args (.bool true) args=true:=
 postW_of (r:=l.row.toRowW) (X:=(true == true))
  (show WShape.has [] (.bool true) .bool=true by first|rfl|decide|simp[WShape.has,WShape.arms,WShape.armsAll])
  (show(WTm.eq .res (.lit (.bool true))).value [] { args:=args,res:=a_ (.bool true),after:=args}=a_ (.bool (true == true)) from w_eq_bool (w_res rfl) w_lit) rfl
variable{XP:(m_ 0)->t_->Prop}{YP:u_->t_->Prop}{loose:Zw 0}
theorem attach_call{q:ve}{d:DefRec}(hn:l.most=a_ n)(j9:d.params.defaults=[])(call:∀(w:u_)(s₀ s₁:q_)(mg mb:m_ 0)(fa:r_)(o:Obj)(pm cd doc:qe)(a:r_)(vs:ZE 0)(ns:x_ Int),
   Ground q loose [] XP w s₀ mg mb s₁.heap->YP w s₁.heap->
   s₁.heap.get? fa=a_ o->o.data=.func (docDef d.name d.params d.body d.scope pm cd doc)->s₁.heap.CodeRec cd d.name->mg d.name=c_ fa->
   s₁.heap.get? a=a_ {cls:=.type "list",data:=.seq vs.toArray}->IntsAre vs ns->ns.length<=n->s₁.gens=#[]->
   codeAny (model l.prog w) callerA (.call (.ref fa) ⟨[.ref a],[]⟩) (λr s'=>r=.ok (.ret (.bool true))/\OldK s₁.heap s'.heap/\s'.os=s₁.os/\AllBare s'.gens) s₁):
  WalkO q loose XP YP l.row.toRowW d [] (λf vs=>PySem.call f vs):=by
 intro w s₀ s₁ mg mb G Y fa o pm cd doc dV kV ho hd d8 hD hmg hg args vals as gj hlay hrd oz xk;obtain rfl:dV=.none:=Dflts.none hD j9;obtain rfl:kV=.none:=Dflts.noKw hD;let⟨a,vs,ns,rfl,rfl,i9,hints,hlen⟩:=K6 hn gj oz;refine enter_call (codeAny_mono (call w s₀ s₁ mg mb fa o pm cd doc a vs ns G Y ho (fd_plain hd) d8 hmg i9 hints hlen hg) λr s' hq=>?_);let⟨rfl,h2,h3,h4⟩:=hq;show⟨.inl ⟨.bool true,.bool true,[],rfl,λ_=>rfl,.bool true,K7 l _,λ_=>⟨List.Pairwise.nil,λ_ hm=>(nomatch hm)⟩⟩,h2,h3,h4⟩
end Att
namespace L2
theorem CU:∀{vs:ZE 0}{ns:x_ Int},IntsAre vs ns->aS (Z_ 0) vs
 |_,_,.nil=>.nil
 |_,_,.cons n t h=>.cons ⟨t,rfl⟩ (CU h)
def LI(H:Hp):Prop:=∀b,H b=b_\/∃o xs,H b=a_ (.frz o (.lst xs))
variable{CX:CXT}{K:y0}{P:ve}{a:r_}{fd:z6}{mg:m_ 0}{ns:x_ Int}{sp:Sp}{s₁:q_}{w:u_}{x:Str}
theorem LJ{mb:m_ 0}{k:Nat}{fa:r_}{vs:ZE 0}(KX:K.In s₁.heap)(tj:s₁.heap.Ns WD mg)(hb:s₁.heap.Ns builtinsNs mb)(i8:∀x:Str,x≠"__name__" -> mb x=XD x)(r6:s₁.heap.NoLimit)(hg:s₁.gens=#[])(ha:s₁.heap.get? a=a_ {cls:=.type "list",data:=.seq vs.toArray})(hi:IntsAre vs ns)(hl:ns.length<=zf)(hr:gU k callerA)(F:∀base:t_,K.In base->base.Ns WD mg->aT P w K mg base CX k fa fd [x] sp)(mq:∀(s:q_)(u:qe),BindsTo s fd ⟨[u],[]⟩ [(x,u)])(ic:∀H:Hp,LI H->ZI a (Z_ 0)->sp [.ref a] H (λv _=>v=.bl true) λ_ _ _=>False)(qc:∀H e s',CX [] H s₁ (λ_ _ _=>False) e s'->False):
  codeAny (model P w) callerA (.call (.ref fa) ⟨[.ref a],[]⟩) (λr s'=>r=.ok (.ret (.bool true))/\OldK s₁.heap s'.heap/\s'.os=s₁.os/\AllBare s'.gens) s₁:=by
 let rv:=CU hi;let qy:=hi.length
 -- from an abstract heap in which nothing but the script may be tracked
 let core:∀H:Hp,LI H->ZI a (Z_ 0)->ZZ s₁.heap->(∀b,H b≠b_->b=a)->(H a≠b_->K.lookup a=b_)->
   codeAny (model P w) callerA (.call (.ref fa) ⟨[.ref a],[]⟩) (λr s'=>r=.ok (.ret (.bool true))/\OldK s₁.heap s'.heap/\s'.os=s₁.os/\AllBare s'.gens) s₁:=by
  intro H hO hS hok hA hK;let de:∀{b:r_}{o:Obj},s₁.heap.get? b=a_ o->H b=b_->(DH s₁.heap H).get? b=a_ o:=λe n=>Lf e n;let kg:∀{b:r_}{o:Obj}{es:Array Yk}{ep:Nat},s₁.heap.get? b=a_ o->o.data=.dict es ep->H b=b_:=λ{b o es ep} e d=>by
   cases q:H b with
   |none=>rfl
   |some u=>have e':b=a:=hA b (by rw[q];simp);subst e';rw[ha]at e;cases e;let d':Data.seq vs.toArray _=Data.dict es ep:=d;cases d'
  let nj:∀{b:r_}{m:m_ 0},s₁.heap.Ns b m->(DH s₁.heap H).Ns b m:=λ{b m} ⟨o,es,ep,e,d,r⟩=>⟨o,es,ep,de e (kg e d),d,r⟩;let uz:K.In (DH s₁.heap H):=λb o e=>de (KX b o e) (by
   cases q:H b with
   |none=>rfl
   |some u=>have e':b=a:=hA b (by rw[q];simp);subst e';rw[hK (by rw[q];simp)]at e;cases e)
  let hM:Mod K mg (DH s₁.heap H):=⟨uz,nj tj,⟨mb,nj hb,i8⟩,let ⟨mc,h1,h2⟩:=r6;⟨mc,nj h1,h2⟩⟩;let e0:Ct P w K mg (DH s₁.heap H) callerA [] s₁ H:=⟨rfl,hM,λb o e=>O3 e,Nat.le_of_eq (JV _ _),trivial,λb hb=>absurd (show b∈([]:x_ r_) from hb) (by simp),hok,.of_eq hg⟩
  refine codeAny_mono ((F _ uz (nj tj)).run callerA [] s₁ H ⟨[.ref a],[]⟩ [.ref a] [.ref a] _ _ hr e0 (mq s₁ (.ref a)) (.cons rfl .nil) (ic H hO hS)) λr s' h=>?_;cases r with
  |error e=>exact(qc H e s' h).elim
  |ok fl=>
   cases fl with
   |next=>exact Xh h
   |brk=>exact Xh h
   |cont=>exact Xh h
   |ret u=>
    let⟨v,H',os,bare,un,qt,r',q⟩:=h;let q':v=.bl true:=q;subst q';obtain rfl:u=Value.bool true:=r';refine⟨rfl,OldK.of_keep λb o e=>?_,os,bare⟩;cases q:H b with
    |none=>exact un.keep b o e q (by intro z;show absurd (show b∈([]:x_ r_) from z) (by simp)) (by simp)
    |some u=>
     rcases hO b with z|⟨ob,xs,z⟩
     ·rw[q]at z;cases z
     ·let z2:=un.frzs b ob _ z;let⟨e1,_⟩:=hok b _ z;let⟨e2,_⟩:=qt b _ z2;rw[e]at e1;cases e1;show e2
 cases hk:K.lookup a with
 |some o=>
  -- the script is one of the module's own objects
  let e:=KX a o hk;rw[ha]at e;cases e
  refine core (λ_=>b_) (λ_=>.inl rfl) (.inr ⟨_,vs.toArray,_,hk,rfl,rfl,rfl,by rw[zb,qy];show hl,ke rv⟩) (λb u z=>by let z':(b_:y_ HO)=a_ u:=z;cases z') (λb z=>absurd rfl z) λz=>absurd rfl z
 |none=>
  refine core (λb=>if b=a then a_ (.frz {cls:=.type "list",data:=.seq vs.toArray} (.lst (Z_ 0))) else b_) (λb=>?_) (.inl (.inr ⟨{cls:=.type "list",data:=.seq vs.toArray},Zc 0⟩)) (λb u z=>?_) (λb z=>?_) λ_=>hk
  ·by_cases hb:b=a
   ·show .inr ⟨_,_,if_pos hb⟩
   ·show .inl (if_neg hb)
  ·by_cases hb:b=a
   ·let z':=(if_pos hb).symm.trans z;cases z'
    subst hb;show⟨ha,by rw[za];show hl,vs,_,rv,ha⟩
   ·let z':=(if_neg hb).symm.trans z;cases z'
  ·by_cases hb:b=a
   ·show hb
   ·show absurd (if_neg hb) z
variable{XP:(m_ 0)->t_->Prop}{YP:u_->t_->Prop}{l:PySem.W.OpenLaw}{loose:Zw 0}{n:Nat}
theorem walk_of{k:Nat}{q:ve}{d:DefRec}{K:Params->y0}{CX:u_->CXT}{sp:u_->Sp}(hn:l.most=a_ n)(ny:n<=zf)(j9:d.params.defaults=[])(hr:gU k callerA)(hY:∀(w:u_)(h:t_),YP w h->(K w.params).In h)(F:∀(w:u_)(mg:m_ 0)(fa:r_)(h:t_),(K w.params).In h->h.Ns WD mg->mg d.name=c_ fa->
   ∃fd:z6,(∀(s:q_)(u:qe),BindsTo s fd ⟨[u],[]⟩ [(x,u)])/\
    ∀base:t_,(K w.params).In base->base.Ns WD mg->aT l.prog w (K w.params) mg base (CX w) k fa fd [x] (sp w))(ic:∀(w:u_)(H:Hp)(a:r_)(ns:x_ Int),ns.length<=n->LI H->SqL (K w.params) H a (Z_ 0)->sp w [.ref a] H (λv _=>v=.bl true) λ_ _ _=>False)(qc:∀(w:u_)(H:Hp)(s:q_)(e:qe)(s':q_),CX w [] H s (λ_ _ _=>False) e s'->False):
  PySem.W.WalkO q loose XP YP l.row.toRowW d [] (λf vs=>PySem.call f vs):=by
 refine Att.attach_call hn j9 λw s₀ s₁ mg mb fa o pm cd doc a vs ns G Y ho hd d8 hmg i9 hints hlen hg=>?_;let KX:=hY w _ Y;let⟨fd,hb,hF⟩:=F w mg fa _ KX G.T.g hmg;show LJ KX G.T.g G.T.b G.T.builtins G.T.nolimit hg i9 hints (Wu hlen ny) hr hF hb (λH hO hS=>ic w H a ns hlen hO hS) λH e s'=>qc w H s₁ e s'
def inClass(s:w_)(j:Nat):w_:=match s with
 |.ClassDef _ _ _ body _ _ _ _ _ _ _=>body.getD j (.Pass ⟨0,0,0,0⟩)
 |_=>.Pass ⟨0,0,0,0⟩
def hV(s:w_):Arguments:=match s with
 |.FunctionDef _ a _ _ _ _ _ _ _ _=>a
 |_=>{ posonlyargs:=[],args:=[],vararg:=b_,kwonlyargs:=[],kw_defaults:=[],kwarg:=b_,defaults:=[]}
def fM(s:w_):x_ w_:=match s with
 |.FunctionDef _ _ b _ _ _ _ _ _ _=>b
 |_=>[]
def aJ(s:w_):Scope:=match s with
 |.FunctionDef _ _ _ _ _ _ sc _ _ _=>sc
 |_=>{ kind:=.function,names:=[],isGenerator:=false,isCoroutine:=false}
abbrev CX0:CXT:=λ_ _ _ _ _ _=>False
abbrev E0:XK:=λ_ _ _=>False
variable{X:Cx}
theorem CV:sV CX0 X E0:=λ_ _ _ _ _ _ _ h=>h.elim
structure Fun(K:y0)(x qual:Str)(st:w_)(f:r_)(fd:z6):Prop where
 ex:∃(oc:qe)(od:y_ r_)(kV doc pm:qe)(an:y_ r_)(cdv ct:qe)(osl:l_ 0),
  fd=Xc x qual (hV st) (fM st) (aJ st) .none kV doc pm an cdv ct/\K.lookup f=some ⟨oc,od,.func fd,osl⟩/\Yz K cdv qual=true
 kp:WO K (.ref f)=true
variable{N ps:Zw 0}{base:t_}{qual:Str}{st:w_}
theorem Fun.ok{f:r_}{k:Nat}(F:Zn x qual st f fd)(S:aR N ps (aJ st))(len:∀vs H Q E,sp vs H Q E->vs.length=ps.length)(dz:∀(cdv:qe)(A:td)(outer:x_ Env)(s:q_)(H:Hp)(vs:x_ V)(Q:VK)(E:XK),gU k (A.deeper (envOfC qual (aJ st) (e_ s) f cdv))->sp vs H Q E->
   ∃t,PSs (Hr CX0 P w K mg base N qual (aJ st) f cdv A outer s H E).nox (fM st) t/\t { nx:=λ_ H'=>Q .non H',rt:=Q} (start N vs) H):j_ (k+1) f fd ps sp:=by
 let⟨oc,od,kV,doc,pm,an,cdv,ct,osl,rfl,lk,d8⟩:=F.ex;refine Ts lk d8 S len λA outer s H vs Q E hr ic=>?_;let⟨t,h,q⟩:=dz cdv A outer s H vs Q E hr ic;show⟨t,h.nox,q⟩
theorem Fun.binds{f:r_}(F:Zn x qual st f fd)(h:∀(kV doc pm:qe)(an:y_ r_)(cdv ct:qe)(us:ZE 0),us.length=ps.length->bindArgs (Xc x qual (hV st) (fM st) (aJ st) .none kV doc pm an cdv ct) ⟨us,[]⟩=pure (ps.zip us)):Binds K fd ps []:=by let⟨oc,od,kV,doc,pm,an,cdv,ct,osl,rfl,lk,d8⟩:=F.ex;show .all (h kV doc pm an cdv ct)
variable{an od:y_ r_}{cdv ct doc pm:qe}{osl:l_ 0}
theorem B0{f:r_}{oc:qe}{kV:qe}(l:K.lookup f=a_ ⟨oc,od,.func (Xc x qual (hV st) (fM st) (aJ st) .none kV doc pm an cdv ct),osl⟩)(c:Yz K cdv qual=true)(k:WO K (.ref f)=true):Zn x qual st f (Xc x qual (hV st) (fM st) (aJ st) .none kV doc pm an cdv ct):=⟨⟨oc,od,kV,doc,pm,an,cdv,ct,osl,rfl,l,c⟩,k⟩
variable{A:td}
theorem TC{k:Nat}(hr:gU k A):A.units+1<cLine:=Nat.lt_of_le_of_lt (Nat.add_le_add_left (by decide:1<=64) _) hr.units
variable{B:Prop}
theorem Ft{A:Prop}(h:B):if false=true then A else B:=by rw[if_neg zj];show h
theorem Fu{A:Prop}(h:A):if true=true then A else B:=by rw[Zc 0];show h
def Fv(H H':Hp):Prop:=∀b o,H b=a_ o->H' b=a_ o
variable{u:qe}{y:V}
section
variable{κ:Type}[DecidableEq κ]
def nA(kvs:x_ (κ×V))(k:κ):y_ V:=(kvs.find? λkv=>decide (kv.1=k)).map (·.2)
def putK(kvs:x_ (κ×V))(k:κ)(v:V):x_ (κ×V):=if(kvs.any λkv=>decide (kv.1=k))=true then kvs.map (λkv=>if kv.1=k then(kv.1,v) else kv) else kvs++[(k,v)]
theorem uR{p:κ×V}{r:x_ (κ×V)}{k:κ}(e:p.1=k):nA (p::r) k=a_ p.2:=by simp[nA,Xz,e]
theorem uS{p:κ×V}{r:x_ (κ×V)}{k:κ}(e:¬ p.1=k):nA (p::r) k=nA r k:=by simp[nA,Xz,e]
theorem B1(k:κ):∀kvs:x_ (κ×V),(kvs.any λkv=>decide (kv.1=k))=(nA kvs k).isSome
 |[]=>rfl
 |p::r=>by
  rw[Ys];by_cases e:p.1=k
  ·simp only[uR e,decide_eq_true e,Bool.true_or,YR]
  ·rw[uS e,decide_eq_false e,Bool.false_or];show B1 k r
theorem pW(kvs:x_ (κ×V))(k:κ)(v:V):(putK kvs k v).length<=kvs.length+1:=by
 unfold putK;split
 ·rw[za];omega
 ·rw[W5,Wi,List.length_nil];omega
theorem pL.isSome_eq{o:y_ V}{u:y_ qe}(r:pL o u):o.isSome=u.isSome:=by
 cases o with
 |none=>cases u with
  |none=>rfl
  |some _=>exact(show False from r).elim
 |some _=>cases u with
  |none=>exact(show False from r).elim
  |some _=>rfl
theorem pL.getD{o:y_ V}{u:y_ qe}{d:V}{d':qe}(r:pL o u)(rd:RelV d d'):RelV (o.getD d) (u.getD d'):=by
 cases o with
 |none=>cases u with
  |none=>exact rd
  |some _=>exact(show False from r).elim
 |some _=>cases u with
  |none=>exact(show False from r).elim
  |some _=>exact r
theorem KV.val{kvs:x_ (κ×V)}{vs:x_ (κ×qe)}(r:KV kvs vs)(k:κ):pL (nA kvs k) (valueAt vs k):=by
 unfold KV at r
 induction r with
 |nil=>exact WZ
 | @cons p q ps qs h t ih=>
  let⟨h1,h2⟩:=h;by_cases e:p.1=k
  ·let e':q.1=k:=h1.symm.trans e;let b:valueAt (q::qs) k=a_ q.2:=by simp[valueAt,Xz,e']
   rw[uR e,b];show h2
  ·let e':¬ q.1=k:=λz=>e (h1.trans z);let b:valueAt (q::qs) k=valueAt qs k:=by simp[valueAt,Xz,e']
   rw[uS e,b];show ih
theorem KV.any{kvs:x_ (κ×V)}{vs:x_ (κ×qe)}(r:KV kvs vs)(k:κ):(kvs.any λkv=>decide (kv.1=k))=vs.any λkv=>decide (kv.1=k):=by
 unfold KV at r
 induction r with
 |nil=>rfl
 |cons h t ih=>rw[Ys,Ys,ih,h.1]
theorem KV.repl{kvs:x_ (κ×V)}{vs:x_ (κ×qe)}(r:KV kvs vs)(k:κ)(ry:Z4 u):
  KV (kvs.map λkv=>if kv.1=k then(kv.1,y) else kv) (vs.map λkv=>if kv.1=k then(kv.1,u) else kv):=by
 unfold KV at r⊢
 induction r with
 |nil=>exact .nil
 | @cons p q ps qs h t ih=>
  rw[zg,zg];refine .cons ?_ ih;let⟨h1,h2⟩:=h;by_cases e:p.1=k
  ·rw[if_pos e,if_pos (h1.symm.trans e)];show⟨h1,ry⟩
  ·rw[Zs 0,if_neg (λz=>e (h1.trans z))];show⟨h1,h2⟩
theorem KV.put{kvs:x_ (κ×V)}{vs:x_ (κ×qe)}(r:KV kvs vs)(k:κ)(ry:Z4 u):KV (putK kvs k y) (stored vs k u):=by
 unfold putK stored;rw[r.any k];by_cases e:(vs.any λkv=>decide (kv.1=k))=true
 ·rw[if_pos e,if_pos e];show r.repl k ry
 ·rw[Zs 0,Zs 0];show Paired.snoc r ⟨rfl,ry⟩
theorem KV.length{kvs:x_ (κ×V)}{vs:x_ (κ×qe)}(r:KV kvs vs):kvs.length=vs.length:=Wt r
end
theorem zF{k:Key}(r:RelV (kV k) u):(cJ P w).is k u=true:=by
 cases k with
 |inl i=>let⟨t,e⟩:=(show ∃t,u=Value.int i t from r);subst e;show Ff P w i t
 |inr x=>let⟨t,e⟩:=(show ∃t,u=Value.str x t from r);subst e;show Fg P w x t
theorem CW{P:ve}{w:u_}:∀{ks:Zg 0}{us:ZE 0},aS (ks.map kV) us->ItemsAre (cJ P w) ks us
 |[],_,r=>by rw[List.map_nil]at r;cases r;show .nil
 |k::ks,_,r=>by
  rw[zg]at r;cases r with
  |cons h t=>exact .cons (zF h) (CW t)
abbrev KT(H:Hp):x_ (Zg 0×V)->x_ (Zg 0×r_×qe)->Prop:=Paired λp q=>p.1=q.1/\H q.2.1=a_ (.tup (p.1.map kV))/\RelV p.2 q.2.2
variable{H:Hp}
theorem KT.val{kvs:x_ (Zg 0×V)}{xs:x_ (Zg 0×r_×qe)}(r:KT H kvs xs)(k:Zg 0):pL (nA kvs k) ((ZN k).map (·.2)):=by
 induction r with
 |nil=>exact WZ
 | @cons p q ps qs h t ih=>
  let⟨h1,_,h2⟩:=h;by_cases e:p.1=k
  ·let e':q.1=k:=h1.symm.trans e;let b:atKey (q::qs) k=a_ q.2:=by simp[atKey,Xz,e']
   rw[uR e,b];show h2
  ·let e':¬ q.1=k:=λz=>e (h1.trans z);let b:atKey (q::qs) k=atKey qs k:=by simp[atKey,Xz,e']
   rw[uS e,b];show ih
theorem KT.repl{kvs:x_ (Zg 0×V)}{xs:x_ (Zg 0×r_×qe)}(r:KT H kvs xs)(k:Zg 0)(ry:Z4 u):
  KT H (kvs.map λkv=>if kv.1=k then(kv.1,y) else kv) (xs.map (putAt k u)):=by
 induction r with
 |nil=>exact .nil
 | @cons p q ps qs h t ih=>
  rw[zg,zg];refine .cons ?_ ih;let⟨h1,h2,h3⟩:=h;unfold putAt;by_cases e:p.1=k
  ·rw[if_pos e,if_pos (h1.symm.trans e)];show⟨h1,h2,ry⟩
  ·rw[Zs 0,if_neg (λz=>e (h1.trans z))];show⟨h1,h2,h3⟩
theorem KT.put{kvs:x_ (Zg 0×V)}{xs:x_ (Zg 0×r_×qe)}(r:KT H kvs xs)(k:Zg 0){b:r_}(hb:H b=a_ (.tup (k.map kV)))(ry:Z4 u):
  KT H (putK kvs k y) (storedH xs k b u):=by
 let e:(kvs.any λkv=>decide (kv.1=k))=(ZN k).isSome:=by rw[B1,(r.val k).isSome_eq,Option.isSome_map]
 unfold putK storedH;rw[e];by_cases q:(ZN k).isSome=true
 ·rw[if_pos q,if_pos q];show r.repl k ry
 ·rw[if_neg q,if_neg q];show Paired.snoc r ⟨rfl,hb,ry⟩
variable{H':Hp}
theorem KT.keeps{kvs:x_ (Zg 0×V)}{xs:x_ (Zg 0×r_×qe)}(r:KT H kvs xs)(ht:∀b ys,H b=a_ (.tup ys)->H' b=a_ (.tup ys)):KT H' kvs xs:=Paired.mapP r λ_ _ z=>⟨z.1,ht _ _ z.2.1,z.2.2⟩
theorem Qu{h:t_}{u:HO}(ok:ZZ h)(e:Rd H a u):cW P w H h a u:=e.ok ok
theorem zG{h:t_}{kvs:x_ (Key×V)}(ok:ZZ h)(e:Rd H a (.dK kvs)):kvs.length<=zf/\(a == WL)=false/\∃vs,KV kvs vs/\h.DictOf (cJ P w) a vs:=show cW P w H h a (.dK kvs) from Qu ok e
theorem CY{h:t_}{kvs:x_ (Key×V)}(ok:ZZ h)(e:H a=a_ (.dK kvs)):kvs.length<=zf/\(a == WL)=false/\∃vs,KV kvs vs/\h.DictOf (cJ P w) a vs:=zG ok (.inl e)
theorem sW{h:t_}{ks:Zg 0}(ok:ZZ h)(e:H a=a_ (.tup (ks.map kV))):(tupleKind (cJ P w)).is h ks a:=by
 let⟨_,its,r,o,h1,h2,⟨n,h3⟩,_⟩:=(show cW P w H h a (.tup (ks.map kV)) from ok a _ e)
 show⟨o,its.toArray,n,h1,h2,h3,by simpa using CW r⟩
theorem B2{h:t_}{kvs:x_ (Zg 0×V)}(ok:ZZ h)(e:Rd H a (.dT kvs)):kvs.length<=zf/\(a == WL)=false/\
  ∃xs,KT H kvs xs/\h.DictOfH (tupleKind (cJ P w)) a xs:=by
 let⟨z,y,xs,r,o,es,ep,h1,h2,h3,h4,h5⟩:=(show cW P w H h a (.dT kvs) from Qu ok e)
 refine⟨z,y,xs,r,o,es,ep,h1,h2,h3,h4,λx hx=>?_,h5⟩;let all:∀{l:x_ (Zg 0×V)}{m:x_ (Zg 0×r_×qe)},KT H l m->∀x∈m,(tupleKind (cJ P w)).is h x.1 x.2.1:=by
  intro l m q
  induction q with
  |nil=>intro x hx;show nomatch hx
  | @cons p q ps qs hq t ih=>
   intro x hx;rcases zq.mp hx with e|hx
   ·subst e;show sW ok (by rw[<-hq.1];show hq.2.1)
   ·show ih x hx
 show all r x hx
theorem TF{h:t_}{kvs:x_ (Zg 0×V)}(ok:ZZ h)(e:H a=a_ (.dT kvs)):kvs.length<=zf/\(a == WL)=false/\
  ∃xs,KT H kvs xs/\h.DictOfH (tupleKind (cJ P w)) a xs:=B2 ok (.inl e)
def sX(H:Hp)(a:r_)(y:V)(r:y_ V):Prop:=(∃kvs k,Rd H a (.dK kvs)/\y=kV k/\r=nA kvs k)\/∃kvs k b,Rd H a (.dT kvs)/\y=.ref b/\H b=a_ (.tup (k.map kV))/\r=nA kvs k
def Rr(H:Hp)(a:r_)(y v:V)(H':Hp):Prop:=
 (∃kvs k,H a=a_ (.dK kvs)/\y=kV k/\kvs.length<zf/\H'=R_ a (.dK (putK kvs k v)))\/
 ∃kvs k b,H a=a_ (.dT kvs)/\y=.ref b/\H b=a_ (.tup (k.map kV))/\kvs.length<zf/\H'=R_ a (.dT (putK kvs k v))
theorem sX.k{H:Hp}{a:r_}{kvs:x_ (Key×V)}{k:Key}(e:H a=a_ (.dK kvs)):sX H a (kV k) (nA kvs k):=.inl ⟨kvs,k,.inl e,rfl,rfl⟩
theorem Rr.k{H:Hp}{a:r_}{kvs:x_ (Key×V)}{k:Key}{v:V}(e:H a=a_ (.dK kvs))(hl:kvs.length<zf):Rr H a (kV k) v (R_ a (.dK (putK kvs k v))):=.inl ⟨kvs,k,e,rfl,hl,rfl⟩
variable{FR:gV 0}{s:q_}{σ:St}
theorem Inv.big(I:N_ s):WL<(e_ s):=by let h:WD<(e_ s):=(I.mod.glob.keeps I.bk).lt;show Nat.lt_trans nofun h
variable{E Q:f_ 0}{v:V}
theorem K8(hu:A.units+1<cLine)(I:N_ s)(g:sX H a y (a_ v))(ry:Z4 u)(h:∀w' s',N_ s'->ZF w'->Q w' s'):
  wpAny (g_ X) A (getItem (.ref a) u) Q E s:=by
 rcases g with⟨kvs,k,e,ey,l⟩|⟨kvs,k,b,e,ey,eb,l⟩
 ·subst ey;let⟨z,hd,vs,rel,dd⟩:=zG I.hok e;let⟨w',hw,cf⟩:=pL.some_of (v:=v) (o:=valueAt vs k) (by rw[l];show rel.val k);show wpAny_getItem_of (zF ry) dd.mapOf hw (h w' _ (Zy 0) cf)
 ·subst ey;cases(show u=Wh b from ry)
  let⟨z,hd,xs,rel,dd⟩:=B2 I.hok e;let⟨w',hw,cf⟩:=pL.some_of (v:=v) (o:=(ZN k).map (·.2)) (by rw[l];show rel.val k);let⟨p,hp,qz⟩:=Wb.mp hw;refine wpAny_getItem_heap (XG hu) (sW I.hok eb) dd hp ?_;rw[qz];show h w' _ (Zy 0) cf
theorem Vi{o:y_ V}(hu:A.units+1<cLine)(I:N_ s)(g:sX H a y o)(ry:Z4 u)(h:∀s',N_ s'->Q (.bool o.isSome) s'):
  wpAny (g_ X) A (VX .In u (.ref a)) Q E s:=by
 rcases g with⟨kvs,k,e,ey,l⟩|⟨kvs,k,b,e,ey,eb,l⟩
 ·subst ey;let⟨z,hd,vs,rel,dd⟩:=zG I.hok e;refine wpAny_in_of (zF ry) hd dd.mapOf ?_;rw[<-(rel.val k).isSome_eq,<-l];show h _ (Zy 0)
 ·subst ey;cases(show u=Wh b from ry)
  let⟨z,hd,xs,rel,dd⟩:=B2 I.hok e;refine wpAny_in_heap (XG hu) (sW I.hok eb) hd dd ?_;let q:=(rel.val k).isSome_eq;rw[Option.isSome_map]at q;rw[<-q,<-l];show h _ (Zy 0)
theorem Os{o:y_ V}(hu:A.units+1<cLine)(I:N_ s)(g:sX H a y o)(ry:Z4 u)(h:∀s',N_ s'->Q (.bool (!o.isSome)) s'):
  wpAny (g_ X) A (VX .NotIn u (.ref a)) Q E s:=by
 rcases g with⟨kvs,k,e,ey,l⟩|⟨kvs,k,b,e,ey,eb,l⟩
 ·subst ey;let⟨z,hd,vs,rel,dd⟩:=zG I.hok e;refine wpAny_notIn_of (zF ry) hd dd.mapOf ?_;rw[<-(rel.val k).isSome_eq,<-l];show h _ (Zy 0)
 ·subst ey;cases(show u=Wh b from ry)
  let⟨z,hd,xs,rel,dd⟩:=B2 I.hok e;refine wpAny_notIn_heap (XG hu) (sW I.hok eb) hd dd ?_;let q:=(rel.val k).isSome_eq;rw[Option.isSome_map]at q;rw[<-q,<-l];show h _ (Zy 0)
variable{h':t_}{t':Nat}
theorem uT{ob:HO}(I:N_ s)(mu:Mut (H a))(hs:WX a s.heap h')(he:∃q,h'.get? a=a_ q)(new:Zj (R_ a ob) h' a ob):
  h_ (R_ a ob) {s with heap:=h',toks:=t'}:=
 I.write (x:=a) (e:=a) mu (.inl rfl) (λb q hb z=>(hs.2 b hb).trans z) he new
theorem LK{kvs:x_ (Key×V)}{vs:x_ (Key×qe)}(z:kvs.length<=zf)(hd:(a == WL)=false)(rel:KV kvs vs)(dd:h'.DictOf (cJ P w) a vs):
  cW P w H' h' a (.dK kvs):=⟨z,hd,vs,rel,dd⟩
theorem K9{r:qe}{Q:jn Unit}(hu:A.units+1<cLine)(I:N_ s)(g:Rr H a y v H')(ry:Z4 u)(rv:ZF r)(h:∀s',h_ H' s'->Q () s'):
  wpAny (g_ X) A (setItem (.ref a) u r) Q E s:=by
 rcases g with⟨kvs,k,e,ey,l,eH⟩|⟨kvs,k,b,e,ey,eb,l,eH⟩
 ·subst ey eH;let⟨z,hd,vs,rel,dd⟩:=CY I.hok e;let hz:vs.length<=zf:=by rw[<-rel.length];show z
  let hl:(putK kvs k v).length<=zf:=by have:=pW kvs k v;omega
  refine wpAny_setItem_pairs (hsz:=hz) (zF ry) dd λh' dn hs=>h _ ?_;let he:∃q,h'.get? a=a_ q:=let ⟨q,_,_,hq,_⟩:=dn;⟨q,hq⟩;show uT I (by rw[e];show WZ) hs he (LK hl hd (rel.put k rv) dn)
 ·subst ey eH;cases(show u=Wh b from ry)
  let⟨z,hd,xs,rel,dd⟩:=TF I.hok e;let hz:xs.length<=zf:=by rw[<-Wt rel];show z
  let hl:(putK kvs k v).length<=zf:=by have:=pW kvs k v;omega
  refine wpAny_setItem_heap (hsz:=hz) (XG hu) (sW I.hok eb) dd λh' dn hs=>h _ ?_;let⟨q,es,ep,hq,h2,h3,h4,_,h5⟩:=dn;refine uT I (by rw[e];show WZ) hs ⟨q,hq⟩ ⟨hl,hd,_,(rel.put k eb rv).keeps λc ys ec=>?_,q,es,ep,hq,h2,h3,h4,h5⟩;rw[aQ (T' ec e (λz=>nomatch z))];show ec
theorem TH{kvs:x_ (Key×V)}(I:N_ s)(e:Rd H a (.dK kvs))(h:∀t s',N_ s'->Q (.int kvs.length t) s'):wpAny (g_ X) A (call (.builtin "len") [.ref a]) Q E s:=by let⟨z,hd,vs,rel,dd⟩:=zG I.hok e;refine call_len_dict hd dd (by rw[<-rel.length];rw[Wm]at z;omega) ?_;rw[<-rel.length];show h _ _ (Zy 0)
theorem Fw{o:y_ V}(I:N_ s)(g:sX H a y o):s.TypeIs (.ref a) "dict" := by
 rcases g with⟨kvs,k,e,_,_⟩|⟨kvs,k,b,e,_,_,_⟩
 ·let⟨_,_,vs,_,dd⟩:=zG I.hok e;show dd.typeIs
 ·let⟨_,_,xs,_,dd⟩:=B2 I.hok e;show dd.typeIs
theorem LL(h:t_)(hb:WL<h.objs.size):cW P w H (h.push {cls:=.type "dict",data:=.dict #[]}) h.objs.size (.dK []):=⟨z8 _,beq_eq_false_iff_ne.mpr (Yw (Io hb)),[],.nil,Heap.DictOf.new h⟩
def Rt:TE:=λ_ H Q=>∀p,H p=b_->Q (.ref p) (R_ p (.dK []))
variable{pos:Pos}
theorem LM:Zx (.Dict [] [] pos) Rt:=λFR s σ H Q I h=>wpAny_Dict_empty ⟨.ref (e_ s),_,I.laid (a:=(e_ s)) (o:=.dK []) (t':=s.toks) (λ_ _ q=>y6 _ q) (zd _) (LL s.heap I.big),rfl,h _ (I.hok.fresh (zd _))⟩
theorem Ru{o:y_ V}(hu:A.units+1<cLine)(I:N_ s)(g:sX H a y o)(ry:Z4 u)(h:∀w' s',N_ s'->RelV (o.getD .non) w'->Q w' s'):
  wpAny (g_ X) A (call (.builtin "dict.get") [.ref a,u]) Q E s:=by
 rcases g with⟨kvs,k,e,ey,l⟩|⟨kvs,k,b,e,ey,eb,l⟩
 ·subst ey;let⟨z,hd,vs,rel,dd⟩:=zG I.hok e;refine XH WN dd.typeIs Xf (PySem.F.args_dict_get_2 _ _) (meets_dict_get (cJ X.prog X.w) a (zF ry) hd) ⟨_,dd.mapOf,h _ _ (Zy 0) ?_⟩;rw[l];show(rel.val k).getD rfl
 ·subst ey;cases(show u=Wh b from ry)
  let⟨z,hd,xs,rel,dd⟩:=B2 I.hok e;refine XH WN dd.typeIs Xf (PySem.F.args_dict_get_2 _ _) (meetsH_dict_get (tupleKind (cJ X.prog X.w)) a b hd) ⟨XG hu,k,xs,sW I.hok eb,dd,h _ _ (Zy 0) ?_⟩;rw[l];show(rel.val k).getD rfl
theorem Rv{d:V}{r:qe}{o:y_ V}(hu:A.units+1<cLine)(I:N_ s)(g:sX H a y o)(ry:Z4 u)(rd:RelV d r)(h:∀w' s',N_ s'->RelV (o.getD d) w'->Q w' s'):
  wpAny (g_ X) A (call (.builtin "dict.get") [.ref a,u,r]) Q E s:=by
 rcases g with⟨kvs,k,e,ey,l⟩|⟨kvs,k,b,e,ey,eb,l⟩
 ·subst ey;let⟨z,hd,vs,rel,dd⟩:=zG I.hok e;refine XH WN dd.typeIs Xf (PySem.F.args_dict_get_3 _ _ _) (meets_dict_get_default (cJ X.prog X.w) a (zF ry) hd r) ⟨_,dd.mapOf,h _ _ (Zy 0) ?_⟩;rw[l];show(rel.val k).getD rd
 ·subst ey;cases(show u=Wh b from ry)
  let⟨z,hd,xs,rel,dd⟩:=B2 I.hok e;refine XH WN dd.typeIs Xf (PySem.F.args_dict_get_3 _ _ _) (meetsH_dict_get_default (tupleKind (cJ X.prog X.w)) a b hd r) ⟨XG hu,k,xs,sW I.hok eb,dd,h _ _ (Zy 0) ?_⟩;rw[l];show(rel.val k).getD rd
theorem K':eL X (.builtin "len") (λxs H Q=>∃a kvs,xs=[V.ref a]/\H a=a_ (.dK kvs)/\Q (.int kvs.length) H):=by
 intro FR s σ H xs us Q I r h;let⟨a,kvs,rfl,ha,q⟩:=h;let⟨u,rfl,ru⟩:=vals1 r;cases ru
 show TH I (.inl ha) λt s' I'=>⟨.int kvs.length,H,I',⟨t,rfl⟩,q⟩
variable{env:Env}{ifs:x_ v_}{iter:v_}{prog:ve}{scope:Scope}
section
variable{R:jn Result}
def J9(ifs:x_ v_)(env:Env):Sem Bool:=forIn ifs true λc r=>if r=true then do let ok <-isTrue c env (eval c env);pure (ForInStep.yield ok) else pure (ForInStep.yield r)
theorem DT{elt target:v_}{it acc:qe}(I:jn Nat)(turn:∀n s,I n s->B_ (pyNext it) (λr s₁=>match r with
   |none=>R (.ok .next) s₁
   | some v=>B_ (letOwnedTupleGo target it v) (fun _ uq=>B_ (assign target env v) (fun _ s₂=>
     B_ (J9 ifs env) (λok s₃=>
      if ok=true then k_ prog w A (eval elt env) (λx s₄=>B_ (call (.builtin "list.append") [acc,x]) (λ_ s₅=>∃m,m<n/\I m s₅) (λ_ _=>False) s₄) (λ_ _=>False) s₃
      else ∃m,m<n/\I m s₃) (λ_ _=>False) s₂) (λ_ _=>False) uq) (λ_ _=>False) s₁) (λ_ _=>False) s)(n:Nat)(h:I n s):
  codeAny (model prog w) A (.compLoop (.ListComp elt [⟨target,iter,ifs,0⟩] scope pos) 0 it acc env) R s:=by
 refine codeAny_loop rfl I (λn s hI=>?_) n h
 show wpAny _ A ((compTurn (.ListComp elt [⟨target,iter,ifs,0⟩] scope pos) 0 it acc env).onRaise (λx=>do noteFrame x env;theTreesLotGoes x)) _ _ s
 refine wpAny_noted ?_;rw[compTurn_list];refine yx (wpAny_standAt (yx (Xg (turn n s hI) (λr s₁ h₁=>?_) λ_ _ h'=>h'.elim)));cases r with
 |none=>exact yz h₁
 |some v=>
  refine yx (Xg h₁ (λ_ uq vn=>?_) λ_ _ h'=>h'.elim);refine yx (Xg vn (λ_ s₂ h₂=>yx (Xg h₂ (λok s₃ h₃=>?_) λ_ _ h'=>h'.elim)) λ_ _ h'=>h'.elim);cases ok with
  |false=>exact yz ⟨rfl,h₃⟩
  |true=>exact yx (yx (Xg h₃ (λx s₄ h₄=>yx (Xg h₄ (λ_ s₅ h₅=>yz (yz ⟨rfl,h₅⟩)) λ_ _ h'=>h'.elim)) λ_ _ h'=>h'.elim))
end
def kK(cells:x_ (Str×r_)):x_ (Str×Yg)->x_ (Str×r_)->x_ (Str×r_)
 |[],cs=>cs
 |(n,k)::r,cs=>kK cells r (if(k == Wv)=true then(n,(cells.lookup n).getD 0)::cs else cs)
theorem Cw(h:∀y∈scope.names,y.2=Wv->∃c,env.cells.lookup y.1=a_ c):closureFor scope env=pure (kK env.cells scope.names []):=by
 have go:∀(names:x_ (Str×Yg))(cs:x_ (Str×r_)),(∀y∈names,y.2=Wv->∃c,env.cells.lookup y.1=a_ c)->
   (forIn names cs λ(x:Str×Yg)(r:x_ (Str×r_))=>match x with
    |(name,kind)=>if(kind == Wv)=true then(do let y <-cellOf env name;pure (ForInStep.yield ((name,y)::r))) else(pure (ForInStep.yield r):Sem _))=(pure (kK env.cells names cs):Sem _):=by
  intro names
  induction names with
  |nil=>intro cs _;rfl
  |cons y r ih=>
   intro cs hy
   let⟨n,k⟩:=y
   rw[List.forIn_cons]
   have sy:=λyn=>ih yn λy hm=>hy y (y9 _ hm)
   by_cases hk:(k == Wv)=true
   ·let⟨c,hc⟩:=hy (n,k) y8 (ke hk)
    have e1:cellOf env n=pure c:=by unfold cellOf;rw[show env.cells.lookup n=a_ c from hc]
    have e2:kK env.cells ((n,k)::r) cs=kK env.cells r ((n,c)::cs):=by
     show kK env.cells r (if(k == Wv)=true then _ else _)=_
     rw[if_pos hk,show env.cells.lookup n=a_ c from hc];rfl
    rw[e2,<-sy ((n,c)::cs)]
    simp only[hk,if_true,e1,pure_bind]
   ·have e2:kK env.cells ((n,k)::r) cs=kK env.cells r cs:=by
     show kK env.cells r (if(k == Wv)=true then _ else _)=_
     rw[if_neg hk]
    rw[e2,<-sy cs]
    simp only[hk,if_false,pure_bind]
    try rfl
 have:=go scope.names [] h
 unfold closureFor
 simpa using this
theorem zH{cells:x_ (Str×r_)}{x:Str}{c:r_}:∀(names:x_ (Str×Yg))(cs:x_ (Str×r_)),(kK cells names cs).lookup x=a_ c->cs.lookup x=a_ c\/(∃y∈names,y.1=x/\y.2=Wv/\c=(cells.lookup x).getD 0)
 |[],_,h=>.inl h
 |(n,k)::r,cs,h=>by
  rcases zH r _ h with h1|⟨y,hy,e⟩
  ·by_cases hk:(k == Wv)=true
   ·rw[if_pos hk]at h1;by_cases hx:x=n
    ·subst hx;simp only[zx,beq_self_eq_true]at h1;show .inr ⟨(x,k),y8,rfl,ke hk,(zl h1).symm⟩
    ·have:(x == n)=false:=by simpa using hx
     simp only[zx,this]at h1;show .inl h1
   ·rw[if_neg hk]at h1;show .inl h1
  ·show .inr ⟨y,y9 _ hy,e⟩
theorem B3{cells:x_ (Str×r_)}{x:Str}:∀(names:x_ (Str×Yg))(cs:x_ (Str×r_)),((∃c,cs.lookup x=a_ c)\/∃y∈names,y.1=x/\y.2=Wv)->∃c,(kK cells names cs).lookup x=a_ c
 |[],_,h=>by
  rcases h with h|⟨y,hy,_⟩
  ·show h
  ·cases hy
 |(n,k)::r,cs,h=>by
  refine B3 r _ ?_;rcases h with⟨c,h⟩|⟨y,hy,e1,e2⟩
  ·left;by_cases hk:(k == Wv)=true
   ·rw[if_pos hk];by_cases hx:x=n
    ·subst hx;simp[zx]
    ·have:(x == n)=false:=by simpa using hx
     show⟨c,by simp only[zx,this];show h⟩
   ·rw[if_neg hk];show⟨c,h⟩
  ·rcases zq.mp hy with rfl|hy
   ·left;let hk:(k == Wv)=true:=by simpa using e2
    rw[if_pos hk];let hx:n=x:=e1;subst hx;simp[zx]
   ·show .inr ⟨y,hy,e1,e2⟩
def sY(os:Scope)(oN:Zw 0)(sc:Scope)(N:Zw 0)(js:x_ (y_ Nat)):Bool:=
 (match sc.kind with|.function=>true|_=>false)&&sc.names.all (λy=>match y.2 with
  |.cell=>(match sc.names.lookup y.1 with|some .cell=>true|_=>false)
  |_=>true) &&
 sc.names.all (λy=>match y.2 with
  |.local=>(match sc.names.lookup y.1 with|some .local=>true|_=>false)
  |.free=>(match sc.names.lookup y.1,os.names.lookup y.1 with|some .free,a_ .cell=>true|some .free,a_ .free=>true|_,_=>false)
  |_=>true) &&
 js.length == N.length&&(js.zip N).all (λp=>match p.1 with
  |none=>true
  |some j=>(match oN[j]? with|some x=>decide (x=p.2)|none=>false)&&(match sc.names.lookup p.2 with|some .free=>true|_=>false))
structure Rw(os:Scope)(oN:x_ Str)(sc:Scope)(N:x_ Str)(js:x_ (y_ Nat)):Prop where
 kind:sc.kind=.function
 own:∀y∈sc.names,y.2=.cell->sc.names.lookup y.1=some .cell
 nm:∀y∈sc.names,y.2=.local->sc.names.lookup y.1=some .local
 fr:∀y∈sc.names,y.2=.free->os.names.lookup y.1=some .cell\/os.names.lookup y.1=some .free
 len:js.length=N.length
 cap:∀(i j:Nat),js[i]?=some (some j)->∃x,N[i]?=some x/\oN[j]?=some x/\sc.names.lookup x=some .free
variable{js:x_ (y_ Nat)}{oN:Zw 0}{os sc:Scope}
theorem Ka(h:sY os oN sc N js=true):Rw os oN sc N js:=by
 unfold sY at h;simp only[zp]at h;let⟨⟨⟨⟨h1,h2⟩,h3⟩,h4⟩,h5⟩:=h;refine⟨?_,λy hy e=>?_,λy hy e=>?_,λy hy e=>?_,ke h4,λi j e=>?_⟩
 ·cases hk:sc.kind <;> rw[hk]at h1 <;> first|rfl|exact absurd h1 zj
 ·have:=zk.mp h2 y hy;rw[e]at this;dsimp only at this;cases hl:sc.names.lookup y.1 with
  |none=>rw[hl]at this;show absurd this zj
  |some k=>cases k <;> rw[hl]at this <;> first|rfl|exact absurd this zj
 ·have:=zk.mp h3 y hy;rw[e]at this;dsimp only at this;cases hl:sc.names.lookup y.1 with
  |none=>rw[hl]at this;show absurd this zj
  |some k=>cases k <;> rw[hl]at this <;> first|rfl|exact absurd this zj
 ·have:=zk.mp h3 y hy;rw[e]at this;dsimp only at this;cases hl:sc.names.lookup y.1 with
  |none=>rw[hl]at this;show absurd this zj
  |some k=>
   rw[hl]at this;cases ho:os.names.lookup y.1 with
   |none=>rw[ho]at this;cases k <;> exact absurd this zj
   |some k'=>rw[ho]at this;cases k <;> cases k' <;> first|exact .inl rfl|exact .inr rfl|exact absurd this zj
 ·let hlen:js.length=N.length:=by simpa using h4
  let⟨hi,ej⟩:=yy.mp e;let hN:i<N.length:=⋯;let hz:(js.zip N)[i]?=a_ (a_ j,N[i]):=by rw[List.getElem?_zip_eq_some];show⟨e,by simp[hN]⟩
  have:=zk.mp h5 _ (Wn hz);simp only[zp]at this;let⟨t1,t2⟩:=this;refine⟨N[i],by simp[hN],?_,?_⟩
  ·cases ho:oN[j]? with
   |none=>rw[ho]at t1;show absurd t1 zj
   |some x=>rw[ho]at t1;rw[of_decide_eq_true t1]
  ·cases hl:sc.names.lookup N[i] with
   |none=>rw[hl]at t2;show absurd t2 zj
   |some k=>rw[hl]at t2;cases k <;> first|rfl|exact absurd t2 zj
theorem fH{κ:Type}{x:Str}{k:κ}:∀{l:x_ (Str×κ)},l.lookup x=a_ k->(x,k)∈l
 |[],h=>by simp at h
 |(n,v)::r,h=>by
  by_cases hx:x=n
  ·subst hx;simp only[zx,beq_self_eq_true]at h;cases h
   show y8
  ·have:(x == n)=false:=by simpa using hx
   simp only[zx,this]at h;show y9 _ (fH h)
theorem pX{sc:Scope}{env:Env}:∀{names:x_ (Str×Yg)}{x:Str}{k:Yg},(names.map λ(n,k)=>if(k == Wv&&env.scope.kind == .function&&env.kindOf n == a_ .cell) then(n,YS) else(n,k)).lookup x=a_ k->
  names.lookup x=a_ k\/(k=.cell/\names.lookup x=a_ .free)
 |[],_,_,h=>by simp at h
 |(n,q)::r,x,k,h=>by
  let ih:=@pX sc env r x k;by_cases hc:(q == Wv&&env.scope.kind == .function&&env.kindOf n == a_ .cell)=true
  ·simp only[zg]at h;rw[if_pos hc]at h;let hq:q=.free:=by simp only[zp]at hc;simpa using hc.1.1
   by_cases hx:x=n
   ·subst hx;simp only[zx,beq_self_eq_true]at h⊢;show .inr ⟨(zl h).symm,by rw[hq]⟩
   ·let e:(x == n)=false:=by simpa using hx
    simp only[zx,e]at h⊢;show ih h
  ·simp only[zg]at h;rw[if_neg hc]at h;by_cases hx:x=n
   ·subst hx;simp only[zx,beq_self_eq_true]at h⊢;show .inl h
   ·let e:(x == n)=false:=by simpa using hx
    simp only[zx,e]at h⊢;show ih h
theorem uU{env:Env}:∀{names:x_ (Str×Yg)}{x:Str},names.lookup x=a_ .free->
  (names.map λ(n,k)=>if(k == Wv&&env.scope.kind == .function&&env.kindOf n == a_ .cell) then(n,YS) else(n,k)).lookup x=a_ .free\/
  (names.map λ(n,k)=>if(k == Wv&&env.scope.kind == .function&&env.kindOf n == a_ .cell) then(n,YS) else(n,k)).lookup x=a_ .cell
 |[],_,h=>by simp at h
 |(n,q)::r,x,h=>by
  let ih:=@uU env r x;by_cases hc:(q == Wv&&env.scope.kind == .function&&env.kindOf n == a_ .cell)=true
  ·simp only[zg];rw[if_pos hc];by_cases hx:x=n
   ·subst hx;simp only[zx,beq_self_eq_true]
    first|exact .inr rfl|exact .inr trivial
   ·let e:(x == n)=false:=by simpa using hx
    simp only[zx,e]at h⊢;show ih h
  ·simp only[zg];rw[if_neg hc];by_cases hx:x=n
   ·subst hx;simp only[zx,beq_self_eq_true]at h⊢;show .inl h
   ·let e:(x == n)=false:=by simpa using hx
    simp only[zx,e]at h⊢;show ih h
theorem bN:∀(names:x_ (Str×Yg))(n:Nat)(acc:x_ (Str×r_)),WH n names acc=WH n names []++acc
 |[],_,_=>rfl
 |(x,k)::r,n,acc=>by
  unfold WH;split
  ·rw[bN r _ ((x,n)::acc),bN r _ [(x,n)],Yt];rfl
  ·show bN r n acc
theorem nV{x:Str}{c:r_}:∀{names:x_ (Str×Yg)}{n:Nat},(x,c)∈WH n names []->(x,YS)∈names
 |[],_,h=>by cases h
 |(y,k)::r,n,h=>by
  unfold WH at h;split at h
  ·rename_i hk;rw[bN,Wc]at h;rcases h with h|h
   ·show y9 _ (nV h)
   ·let e:=z7.mp h;let ex:x=y:=congrArg Prod.fst e;let ek:k=.cell:=by simpa using hk
    rw[ex,ek];show y8
  ·show y9 _ (nV h)
theorem zI{α:Type}{x:Str}{c:α}:∀{l:x_ (Str×α)},(x,c)∈l->∃d,l.lookup x=a_ d
 |(y,d)::r,h=>by
  by_cases e:x=y
  ·subst e;show⟨d,by simp[zx]⟩
  ·let z:(x == y)=false:=by simpa using e
   rcases zq.mp h with q|q
   ·show absurd (congrArg Prod.fst q) e
   ·let⟨d',hd⟩:=zI q;show⟨d',by simp only[zx,z];show hd⟩
theorem iY{x:Str}:∀{names:x_ (Str×Yg)}{n:Nat},(x,YS)∈names->∃c,(WH n names []).lookup x=a_ c
 |(y,k)::r,n,h=>by
  let go:∃c,(x,c)∈WH n ((y,k)::r) []:=by
   rcases zq.mp h with q|q
   ·let ex:x=y:=congrArg Prod.fst q;let ek:k=.cell:=(congrArg Prod.snd q).symm;refine⟨n,?_⟩;unfold WH;rw[if_pos (by rw[ek];rfl),bN,ex];show ze _ y8
   ·unfold WH;split
    ·let⟨c,hc⟩:=iY (n:=n+1) q;rw[bN];show⟨c,WR _ (mem_of_lookup hc)⟩
    ·let⟨c,hc⟩:=iY (n:=n) q;show⟨c,mem_of_lookup hc⟩
  let⟨c,hc⟩:=go;show zI hc
theorem uV{α:Type}{x:Str}:∀{l r:x_ (Str×α)},(l++r).lookup x=(l.lookup x).or (r.lookup x)
 |[],_=>by simp
 |(y,d)::l,r=>by
  let ih:=uV (x:=x) (l:=l) (r:=r);cases e:x == y with
  |true=>simp[zx,e]
  |false=>simp only[YE,zx,e];show ih
variable{M:Model}{builtins globals:r_}{closure:x_ (Str×r_)}{code:qe}{func:y_ r_}
theorem wW{outer:Env}{Q:jn Env}(hQ:Q (newEnv scope (e_ s) globals (WH (s.heap.objs.size+1) scope.names closure) qual func code (a_ outer) builtins) {s with heap:=pushCells (s.heap.push {cls:=.type "dict",data:=.dict #[]}) scope.names}):
  wpAny M A (newFunctionEnv scope globals closure [] qual func code (a_ outer) builtins) Q E s:=by
 simp only[newFunctionEnv,YR,if_true];refine yx (wpAny_alloc ?_);refine yx (wpAny_layCells _ (λname kind cells=>by cases hkc:kind == YS <;> simp[hkc]) _ _ _ _ ?_);rw[show({s with heap:=s.heap.push {cls:=.type "dict",data:=.dict #[]} }:q_).heap.objs.size=(e_ s)+1 from Yy ..]
 rw[List.forIn_nil];show yx (yz (yz hQ))
def Cx.comp(X:Cx)(sc:Scope)(N:Zw 0)(C:r_)(fp:x_ r_)(s₀:q_)(H₀:Hp):Cx:=
 { X with N:=N,s₀:=s₀,H₀:=H₀,env:=compEnvC sc (WH (C+1) sc.names (S1 [])) C X.env,outer:=X.stack,ex:=fp,fn:=λx=>(match Zm 0 with|some .cell=>true|_=>false),pn:=[],xe:=λ_ _=>False}
def LN:St->Nat->y_ V
 |[],_=>b_
 |x::_,0=>x
 |_::r,n+1=>LN r n
theorem Fx:∀{σ:St}{i:Nat}{v:V},LN σ i=a_ v->σ[i]?=a_ (a_ v)
 |[],_,_,h=>by cases h
 |x::_,0,v,h=>by let h':x=a_ v:=h;simp[h']
 |_::r,n+1,v,h=>by rw[W7];show Fx (σ:=r) (i:=n) h
def nW(js:x_ (y_ Nat))(σ:St):St:=js.map λo=>match o with
 |none=>b_
 |some j=>LN σ j
variable{i:Nat}
theorem Ot(h:(nW js σ)[i]?=a_ (a_ v)):∃j,js[i]?=a_ (a_ j)/\σ[j]?=a_ (a_ v):=by
 unfold nW at h;rw[zt]at h;cases e:js[i]? with
 |none=>rw[e]at h;cases h
 |some o=>
  rw[e]at h;cases o with
  |none=>cases h
  |some j=>exact⟨j,rfl,Fx (zl h)⟩
def PTs(X:Cx)(ifs:x_ v_)(t:TT):Prop:=
 ∀(FR:gV 0)(s:q_)(σ:St)(H:Hp)(Q:Bool->Hp->Prop),N_ s->t σ H Q->wpAny (g_ X) X.A (J9 ifs X.env) (TP X FR σ Q) X.xe s
def TJ:TT:=λ_ H Q=>Q true H
theorem Ou:PTs X [] TJ:=λ_ _ _ H _ I h=>wpAny_tests_nil ⟨H,I,h⟩
variable{c:v_}
theorem Ov{t:TT}(h:PT X c t):PTs X [c] t:=λFR s σ H Q I q=>wpAny_tests_one (Zd Q I q)
def Qv(js:x_ (y_ Nat))(g:TG)(tt:TT)(te:TE)(σ:St)(acc:r_)(x:V)(H:Hp)(N:Hp->Prop):Prop:=g x (nW js σ) H λσ2 H4=>tt σ2 H4 λb H5=>if b=true then te σ2 H5 λv H6=>∃ys,H6 acc=a_ (.lst ys)/\ys.length<zf/\N (upd H6 acc (.lst (ys++[v]))) else N H5
def J'(js:x_ (y_ Nat))(wi:TI)(g:TG)(tt:TT)(te:TE):TE:=λσ H Q=>wi σ H λJ H1=>∀acc,H1 acc=b_->
 ∃W:Nat->Nat->Hp->Prop,(∃m,W 0 m (upd H1 acc (.lst [])))/\∀i m H2,W i m H2->
  (J.stop i H2/\Q (.ref acc) H2)\/(J.go i H2/\∃N:Hp->Prop,(∀H',N H'->∃m',m'<m/\W (i+1) m' H')/\∀x H3,J.yld i H2 x H3->Qv js g tt te σ acc x H3 N)
structure Off(X:Cx)(FR:gV 0)(H:Hp)(C:r_)(s:q_):Prop where
 ns:∃m,s.heap.Ns C m
 none:H C=none
 loc:C≠X.env.locals
 new:X.s₀.heap.objs.size<=C
 cells:∀x c,X.env.cells.lookup x=some c->c≠C
 FR:∀p∈X.pn++FR,p.1≠C
theorem Off.go{C:r_}(o:Off X FR H C s)(I:N_ s)(hs:WX C s.heap h'):N_ {s with heap:=h'}:=I.turned (t':=s.toks) (λb ob hb e=>(hs.2 b hb).trans e) o.none o.loc (.inr o.new) o.cells o.FR
variable{Q0:f_ 0}{te:TE}{tg:v_}{tt:TT}{use:y_ (qe->Sem Unit)}
theorem CZ{elt:v_}{wi:TI}{g:TG}(hc:X.calm=true)(c6:X.env.scope=os)(fw:X.N=oN)(ok:sY os oN sc N js=true)(hi:PI X tg iter wi)(hg:∀C fp s₀ H₀,PG (ZO 0) tg g)(ht:∀C fp s₀ H₀,PTs (ZO 0) ifs tt)(he:∀C fp s₀ H₀,PE (ZO 0) elt te){Q:VK}(I:N_ s)(h:J' js wi g tt te σ H Q)(rm:∀acc C s6 H6,h_ H6 s6->Off X FR H6 C s6->Q (.ref acc) H6->compPost (g_ X) X.A X.xe use Q0 (.ref acc) C (.ok .next) s6)(hs:∀x,Xs iter X.env x=pure x:=by intro _;rfl):
  wpAny (g_ X) X.A (comprehension (.ListComp elt [⟨tg,iter,ifs,0⟩] sc pos) sc X.env (firstIterPos [⟨tg,iter,ifs,0⟩] pos) (newList []) false (eval iter X.env) use) Q0 X.xe s:=by
 let S:=Ka ok;subst c6 fw;let j3:∀y∈sc.names,y.2=Wv->∃c,X.env.cells.lookup y.1=a_ c:=λy hy e=>I.ok.has y.1 (S.fr y hy e);let il:∀x c,(S1 []).lookup x=a_ c->T_ 0=a_ c:=λx c e=>by
  rcases zH _ _ e with z|⟨y,hy,e1,e2,e3⟩
  ·cases z
  ·let⟨d,hd⟩:=j3 y hy e2;rw[e1]at hd;rw[hd]at e3;rw[hd,e3];rfl
 refine wpAny_comprehension_free (use:=use) rfl hs (Cw j3) S.kind S.nm (thn (hi FR s σ H _ I h) λv s1 h1=>thn h1 λqh s2 h2=>?_);let⟨it,fp,tn,J,H2,e,I2,T,nu,f2,q⟩:=h2;subst e;let⟨W,⟨m0,w0⟩,turn⟩:=q (e_ s2) I2.fresh;refine We (wW ?_);let I3:h_ (upd H2 (e_ s2) (.lst [])) {s2 with heap:=s2.heap.push {cls:=.type "list",data:=.seq ([]:ZE 0).toArray},toks:=s2.toks}:=I2.lnew (its:=[]) (ys:=[]) .nil (z8 _);generalize wo:upd H2 (e_ s2) (HO.lst [])=H3 at w0 I3;generalize wy:({s2 with heap:=s2.heap.push {cls:=.type "list",data:=.seq ([]:ZE 0).toArray},toks:=s2.toks}:q_)=s3 at I3;let wj:({s2 with heap:=s2.heap.push {cls:=.type "list",dict:=b_,data:=.seq ([]:ZE 0).toArray} }:q_)=s3:=wy;let u1:s2.heap.push {cls:=.type "list",dict:=b_,data:=.seq ([]:ZE 0).toArray}=s3.heap:=by rw[<-wj]
 (try rw[u1])
 let hC:∀b o,s3.heap.get? b=a_ o->b≠(e_ s3):=λb o e=>Io (zi e);let old:∀b o,s3.heap.get? b=a_ o->(pushCells (s3.heap.push {cls:=.type "dict",data:=.dict #[]}) sc.names).get? b=a_ o:=λb o e=>pushCells_keeps _ _ b o (y6 _ e);let j6:(pushCells (s3.heap.push {cls:=.type "dict",data:=.dict #[]}) sc.names).Ns (e_ s3) (λ_=>b_):=(Heap.Ns.new s3.heap (.type "dict")).keeps (pushCells_keeps _ _);let l8:=cellsFrom_ok sc.names (s3.heap.push {cls:=.type "dict",data:=.dict #[]}) (s3.heap.objs.size+1) [] ⟨λ_ _ hm=>(nomatch hm),List.Pairwise.nil⟩ (by rw[Yy];show zd _);rw[Yy]at l8;generalize pushCells (s3.heap.push {cls:=.type "dict",data:=.dict #[]}) sc.names=h₁ at old j6 l8⊢;let l6:∀{x c},(WH (s3.heap.objs.size+1) sc.names (S1 [])).lookup x=a_ c->((x,c)∈WH (s3.heap.objs.size+1) sc.names []/\h₁.IsCell c b_/\(e_ s3)+1<=c)\/(T_ 0=a_ c/\c<(e_ s3)):=λ{x c} e=>by
  rw[bN,uV]at e;cases eo:(WH (s3.heap.objs.size+1) sc.names []).lookup x with
  |some d=>
   rw[eo]at e;cases e
   have:=mem_of_lookup eo;show .inl ⟨this,l8.empty x c this⟩
  |none=>rw[eo]at e;let e:=il x c e;let⟨v,z⟩:=I3.cell x c e;show .inr ⟨e,z.lt⟩
 let ui:∀{x c},Zm 0=a_ .free->(S1 []).lookup x=a_ c->(WH (s3.heap.objs.size+1) sc.names (S1 [])).lookup x=a_ c:=λ{x c} hf e=>by
  rw[bN,uV];cases eo:(WH (s3.heap.objs.size+1) sc.names []).lookup x with
  |some d=>have:=S.own _ (nV (mem_of_lookup eo)) rfl;rw[hf]at this;cases this
  |none=>exact e
 let lj:tn 0 s3.heap:=T.keep 0 _ _ nu λb hb o e=>by rw[<-u1];show y6 _ e
 let qw:∀b∈fp,∃o,s3.heap.get? b=a_ o/\∀v,o.data≠.cell v:=T.obj 0 _ lj;let f3:∀b∈fp,Fk X FR H3 b:=λb hb=>by let⟨o,ho,_⟩:=T.obj 0 _ nu b hb;refine⟨?_,(f2 b hb).2⟩;rw[<-wo,aQ (Io (zi ho))];show(f2 b hb).1
 -- the block's context
 let oa:(P_ (e_ s3) fp s3 H3).Ok:=by
  refine⟨I.ok.mod,S.kind,I.ok.glob,I.ok.blt,zd _,λx y c e1 e2=>?_,λx hx=>?_,λx c z e=>?_,I.ok.hd,I.ok.frames,.inl rfl,λb hb=>?_,I3.bs,
   Wu I.ok.bsz I3.sz,λb o e hb=>?_,λb hb hf=>?_,I3.stack,I3.stkFree⟩
  ·rcases l6 e1 with⟨m1,_,g1⟩|⟨z1,g1⟩ <;> rcases l6 e2 with⟨m2,_,g2⟩|⟨z2,g2⟩
   ·show name_of_addr l8.apart m1 m2
   ·show absurd (zr g2 (Nat.le_of_succ_le g1)) (WT _)
   ·show absurd (zr g1 (Nat.le_of_succ_le g2)) (WT _)
   ·show I.ok.inj x y c z1 z2
  ·let fr:Zm 0=a_ .free->∃c,(WH (s3.heap.objs.size+1) sc.names (S1 [])).lookup x=a_ c:=λhf=>
    let ⟨c,hc⟩:=B3 (cells:=X.env.cells) (x:=x) sc.names [] (.inr ⟨_,fH hf,rfl,rfl⟩)
    ⟨c,ui hf hc⟩
   let fin:∀{k},(relabel sc X.env).names.lookup x=a_ k->(k=.cell\/k=.free)->∃c,(WH (s3.heap.objs.size+1) sc.names (S1 [])).lookup x=a_ c:=λ{k} e hk=>by
    rcases pX (sc:=sc) e with z|⟨_,z⟩
    ·rcases hk with rfl|rfl
     ·let⟨c,hc⟩:=iY (n:=(e_ s3)+1) (fH z);show⟨c,by rw[bN,uV,hc];rfl⟩
     ·show fr z
    ·show fr z
   rcases hx with hx|hx
   ·show fin hx (.inl rfl)
   ·show fin hx (.inr rfl)
  ·let z:Zm 0=a_ .cell:=by
    let z:(match Zm 0 with|some .cell=>true|_=>false)=true:=z
    split at z
    ·assumption
    ·cases z
   let e:(WH (s3.heap.objs.size+1) sc.names (S1 [])).lookup x=a_ c:=e;let⟨d,hd⟩:=iY (n:=(e_ s3)+1) (fH z);rw[bN,uV,hd]at e;cases e
   show Nat.le_of_succ_le (l8.empty x c (mem_of_lookup hd)).2
  ·let⟨o,ho,_⟩:=qw b hb;refine⟨hC b o ho,λx c e=>?_⟩;rcases l6 e with⟨_,_,g1⟩|⟨z1,_⟩
   ·show YK (zr (zi ho) (Nat.le_of_succ_le g1))
   ·show(f3 b hb).2.2.2.2.1 x c z1
  ·rcases(f3 b hb).2.2.2.1 with z|z
   ·show I.ok.noex b o e z
   ·show absurd (zr (zi e) (Wu I.ok.bsz z)) (WT _)
  ·rcases zq.mp (I3.stkSub b hf) with z|z
   ·show(f3 b hb).2.1 z
   ·show(f3 b hb).2.2.1 z
 -- what the block takes from around it
 let j7:∀(i:Nat)(x:Str)(v:V),N[i]?=a_ x->(nW js σ)[i]?=a_ (a_ v)->∃u c o,ZF u/\((compEnvC sc (WH (s3.heap.objs.size+1) sc.names (S1 [])) (e_ s3) X.env).kindOf x=a_ .cell\/(compEnvC sc (WH (s3.heap.objs.size+1) sc.names (S1 [])) (e_ s3) X.env).kindOf x=a_ .free)/\
   (WH (s3.heap.objs.size+1) sc.names (S1 [])).lookup x=a_ c/\s3.heap.get? c=a_ o/\o.data=.cell (a_ u)/\H3 c=b_/\c∉fp:=by
  intro i x v hN hv;let⟨j,hj,hσ⟩:=Ot hv;let⟨x',cm,ho,hf⟩:=S.cap i j hj;rw[hN]at cm;cases cm;let⟨m,hn,hl⟩:=I3.loc;let rn:Vis X.env.scope x:=by
   rcases S.fr _ (fH hf) rfl with z|z
   ·show .inr (.inl z)
   ·show .inr (.inr z)
  let⟨u,r,l⟩:=hl j x v ho hσ rn;let⟨c,l5⟩:=B3 (cells:=X.env.cells) (x:=x) sc.names [] (.inr ⟨_,fH hf,rfl,rfl⟩);let o5:=il x c l5;let c5:s3.heap.IsCell c (a_ u):=by
   rcases l with⟨k,_⟩|⟨_,c',e,z⟩
   ·exfalso;rcases S.fr _ (fH hf) rfl with z|z
    ·let k':YZ 0=a_ .local:=k;rw[z]at k';cases k'
    ·let k':YZ 0=a_ .local:=k;rw[z]at k';cases k'
   ·rw[o5]at e;cases e;show z
  let⟨o,br,hd⟩:=c5;refine⟨u,c,o,r,?_,ui hf l5,br,hd,I3.freeC x c o5,λhb=>(f3 c hb).2.2.2.2.1 x c o5 rfl⟩;show(uU (env:=X.env) hf).symm
 -- at any state of the block,its names as at its start
 let j5:∀{cu:gV 0}{σ8:St}{H8:Hp}{s8:q_},Inv (P_ (e_ s3) fp s3 H3) cu σ8 H8 s8->Inv (P_ (e_ s3) fp s3 H3) [] (nW js σ) H8 s8:=λ{cu σ8 H8 s8} I8=>by
  refine⟨I8.ok,I8.os,I8.bare,I8.base,?_,I8.cell,I8.free,I8.freeC,λp hp=>by simp[Cx.comp]at hp,I8.hok,?_⟩
  ·let⟨m,hn,_⟩:=I8.loc;refine⟨m,hn,λi x v hN hv _=>?_⟩;let⟨u,c,o,r,k,hl,ho,hd,vj,w9⟩:=j7 i x v hN hv;refine⟨u,r,.inr ⟨k,c,hl,?_⟩⟩;let⟨sl,e⟩:=I8.base.any ho vj w9;show⟨_,e,hd⟩
  ·change(nW js σ).length=N.length
   unfold nW;rw[za,S.len]
 let I4:Inv (P_ (e_ s3) fp s3 H3) [] (nW js σ) H3 {s3 with heap:=h₁}:=by
  refine⟨oa,rfl,I3.bare,Un.kept old,⟨_,j6,λi x v hN hv _=>?_⟩,λx c e=>?_,I3.fresh,λx c e=>?_,λp hp=>by simp[Cx.comp]at hp,I3.hok.kept old,?_⟩
  ·let⟨u,c,o,r,k,hl,ho,hd,_,_⟩:=j7 i x v hN hv;show⟨u,r,.inr ⟨k,c,hl,o,old c o ho,hd⟩⟩
  ·rcases l6 e with⟨_,g1,_⟩|⟨z1,_⟩
   ·show⟨_,g1⟩
   ·let⟨v,o,ho,hd⟩:=I3.cell x c z1;show⟨v,o,old c o ho,hd⟩
  ·rcases l6 e with⟨_,_,g1⟩|⟨z1,_⟩
   ·show I3.hok.fresh ⋯
   ·show I3.freeC x c z1
  ·change(nW js σ).length=N.length
   unfold nW;rw[za,S.len]
 let u3:tn 0 h₁:=T.keep 0 _ _ lj λb hb o e=>old b o e;let ji:∀{H':Hp},(∀b∈fp,H' b=b_)->∀b∈fp,Fk (P_ (e_ s3) fp s3 H3) [] H' b:=λ{H'} hn b hb=>⟨hn b hb,(oa.exf b hb).1,oa.exfs b hb,.inl hb,(oa.exf b hb).2,λp hp=>by simp[Cx.comp]at hp⟩;let fin:∀(s6:q_)(H6:Hp),Inv (P_ (e_ s3) fp s3 H3) [] (nW js σ) H6 s6->Q (.ref (e_ s2)) H6->compPost (g_ X) X.A X.xe use Q0 (.ref (e_ s2)) (e_ s3) (.ok .next) s6:=λs6 H6 I6 q6=>by
  let I7:h_ H6 s6:=I3.call' (ch:=fp) I6.os I6.base I6.hok I6.bare λb hb=>⟨(f3 b hb).2.2.2.1,(f3 b hb).2.1,(f3 b hb).2.2.2.2.1,(f3 b hb).2.2.2.2.2⟩;refine rm _ _ _ _ I7 ⟨let ⟨m,hn,_⟩:=I6.loc;⟨m,hn⟩,I6.free,YK I3.lt,I3.sz,λx c e=>?_,λp hp=>?_⟩ q6
  ·let⟨v,z⟩:=I3.cell x c e;show Io z.lt
  ·show Io (zi (I3.pin p hp).1)
 let loop:codeAny (g_ X) X.A (.compLoop (.ListComp elt [⟨tg,iter,ifs,0⟩] sc pos) 0 (.ref it) (.ref (e_ s2)) (compEnvC sc (WH (s3.heap.objs.size+1) sc.names (S1 [])) (e_ s3) X.env))
   (compPost (g_ X) X.A X.xe use Q0 (.ref (e_ s2)) (e_ s3)) {s3 with heap:=h₁}:=by
  refine DT (λn s'=>∃i H',Inv (P_ (e_ s3) fp s3 H3) [] (nW js σ) H' s'/\tn i s'.heap/\(∀b∈fp,H' b=b_)/\W i n H') ?_ m0 ⟨0,H3,I4,u3,λb hb=>(f3 b hb).1,w0⟩;rintro n s5 ⟨i,H5,I5,j0,m8,w5⟩;rcases turn i n H5 w5 with⟨stop,qn⟩|⟨go,Nn,hN,step⟩
  ·refine thn (T.done (P_ (e_ s3) fp s3 H3) rfl rfl rfl hc i [] s5 (nW js σ) H5 (λ_ _=>False) I5 (ji m8) j0 stop) λr s6 ⟨hr,I6⟩=>?_;subst hr;show fin s6 H5 I6 qn
  ·refine thn (T.item (P_ (e_ s3) fp s3 H3) rfl rfl rfl hc i [] s5 (nW js σ) H5 (λ_ _=>False) I5 (ji m8) j0 go) λr s6 ⟨u,hr,h6⟩=>?_;subst hr;refine thn h6 λ_ s7 hz=>?_;let⟨x,H7,I7,r7,y7,pz,xp⟩:=hz;let ya:=I7.pinned (ji xp) (T.obj _ _ pz);refine thn (hg _ _ _ _ _ s7 _ H7 x u _ ya r7 (step x H7 y7)) λ_ s8 ⟨σ8,H8,I8,q8⟩=>?_;refine thn (ht _ _ _ _ _ s8 σ8 H8 _ I8 q8) λb s9 ⟨H9,I9,q9⟩=>?_;let again:∀{σ':St}{H':Hp}{s':q_},Inv (P_ (e_ s3) fp s3 H3) ([]++AW fp s7.heap) σ' H' s'->Nn H'->∃m,m<n/\∃i H',Inv (P_ (e_ s3) fp s3 H3) [] (nW js σ) H' s'/\tn i s'.heap/\(∀b∈fp,H' b=b_)/\W i m H':=λ{σ' H' s'} I' n'=>by let⟨m',hm,w'⟩:=hN H' n';refine⟨m',hm,i+1,H',j5 I',T.keep _ _ _ pz λb hb o e=>(I'.pin (b,o) (ze _ (ze _ (nU hb e)))).1,λb hb=>?_,w'⟩;let⟨o,e,d⟩:=T.obj _ _ pz b hb;show(I'.pin (b,o) (ze _ (ze _ (nU hb e)))).2.1
   cases b with
   |false=>exact again I9 q9
   |true=>refine thn (he _ _ _ _ _ s9 σ8 H9 _ I9 q9) λu' s10 ⟨v,H10,I10,rv,ys,cb,hz,n10⟩=>?_;refine thn (CT (X:=P_ (e_ s3) fp s3 H3) _ s10 σ8 H10 (.ref (e_ s2)) [v] (.ref (e_ s2)) [u'] (λ_ H'=>Nn H') I10 rfl (.cons rv .nil) ⟨_,ys,v,rfl,rfl,cb,hz,n10⟩) λ_ s11 ⟨_,H11,I11,_,n11⟩=>?_;show again I11 n11
 show codeAny_compStart_list loop (T.self X.A 0 _ _ _ u3 loop)
theorem Ow{elt:v_}{wi:TI}{g:TG}(hc:X.calm=true)(c6:X.env.scope=os)(fw:X.N=oN)(ok:sY os oN sc N js=true)(hi:PI X tg iter wi)(hg:∀C fp s₀ H₀,PG (ZO 0) tg g)(ht:∀C fp s₀ H₀,PTs (ZO 0) ifs tt)(he:∀C fp s₀ H₀,PE (ZO 0) elt te)(hs:∀x,Xs iter X.env x=pure x:=by intro _;rfl):Zx (.ListComp elt [⟨tg,iter,ifs,0⟩] sc pos) (J' js wi g tt te):=by intro FR s σ H Q I h;rw[eval_ListComp];refine CZ (use:=b_) hc c6 fw ok hi hg ht he I h (λacc C s6 H6 I6 o q=>?_) hs;show⟨o.ns.choose,o.ns.choose_spec,λh' dh=>⟨.ref acc,H6,o.go I6 dh,rfl,q⟩⟩
variable{dq pos':Pos}
theorem Hw{elt:v_}{wi:TI}{g:TG}(hN:X.N.Nodup)(cm:X.N[i]?=a_ x)(gv:YZ 0=a_ .local)(hc:X.calm=true)(c6:X.env.scope=os)(fw:X.N=oN)(ok:sY os oN sc N js=true)(hi:PI X tg iter wi)(hg:∀C fp s₀ H₀,PG (ZO 0) tg g)(ht:∀C fp s₀ H₀,PTs (ZO 0) ifs tt)(he:∀C fp s₀ H₀,PE (ZO 0) elt te)(qo:swapsWith (.ListComp elt [⟨tg,iter,ifs,0⟩] sc pos) (a_ (.Name x pos')) dq.line X.env=pure true:=by rfl)(hs:∀x,Xs iter X.env x=pure x:=by intro _;rfl):PS X (.Assign [.Name x pos'] (.ListComp elt [⟨tg,iter,ifs,0⟩] sc pos) dq) (R3 (J' js wi g tt te) (Li i)):=by
 intro FR s σ H D I h
 rw[exec_Assign_Name_used _ _ _ _ qo]
 refine yx (wpAny_standAt (yx ?_))
 show wpAny _ X.A (do let _ <-comprehension (.ListComp elt [⟨tg,iter,ifs,0⟩] sc pos) sc X.env _ (newList []) false (eval iter X.env) (a_ (assign (.Name x pos') X.env))) _ _ s
 refine yx (thn (CZ (use:=a_ (assign (.Name x pos') X.env)) (Q0:=λ_ s'=>SP X FR D .next s') hc c6 fw ok hi hg ht he I h (λacc C s6 H6 I6 o q=>?_) hs) λ_ s' hq=>yz (yz hq))
 show wpAny _ X.A (assign (.Name x pos') X.env (.ref acc)) _ _ _
 refine wpAny_assign_Name (CM I6 hN cm (.inl gv) (v:=.ref acc) rfl (λs7 I7 ⟨a,hs7,ha⟩=>?_) (.inr gv))
 have ub:C≠a:=by
  rcases ha with rfl|ha
  ·exact o.loc
  ·exact λe=>o.cells x a ha e.symm
 let⟨m,hn⟩:=o.ns
 have o7:Off X FR H6 C s7:=⟨⟨m,hn.sameBut hs7 ub⟩,o.none,o.loc,o.new,o.cells,o.FR⟩
 exact⟨m,hn.sameBut hs7 ub,λh' dh=>⟨_,H6,o7.go I7 dh,q⟩⟩
def TK:V->Zz 0->Zz 0->Hp->VK->Prop:=λx lo hi H Q=>∃z,x=.str z/\z.length<=zf/\Q (.str (W2 z lo hi)) H
theorem part_of{v:qe}{o:Zz 0}(h:IsPart v o):∃p:y_ (Int×Tok),v=partValue p/\p.map (·.1)=o:=by
 cases h with
 |none=>exact⟨b_,rfl,rfl⟩
 |int i t=>exact⟨a_ (i,t),rfl,rfl⟩
theorem Rx:SlR X TK:=by
 intro FR s σ H x v vl vu lo hi sl Q I rx hs pl pu h;let⟨z,rfl,hz,q⟩:=h;let⟨t,rfl⟩:=rx;let⟨l,rfl,rfl⟩:=part_of pl;let⟨u,rfl,rfl⟩:=part_of pu;let⟨o,ho,hc,hd⟩:=hs;refine⟨"str",_,PySem.F.slot_str_getitem.lookup,typeIs_str s z t,?_⟩;refine wpAny_getItem_str_slice (l:=l) (u:=u) (st:=b_) ⟨o,ho,hc,hd⟩ rfl ?_;let e:sliceMade z t l u b_=if((1:Int) == 1&&(Yl (l.map (·.1)) (u.map (·.1)) 1 z.length).length == z.length)=true then Made.val (.str z t) else Made.str ⟨((Yl (l.map (·.1)) (u.map (·.1)) 1 z.length).filterMap (z.cps[·]?)).toArray⟩:=rfl;let hle:=Txt.slice_le z (l.map (·.1)) (u.map (·.1));unfold W2 at q hle;rw[e];by_cases ae:((1:Int) == 1&&(Yl (l.map (·.1)) (u.map (·.1)) 1 z.length).length == z.length)=true
 ·rw[if_pos ae]at q⊢;show⟨.str z,H,I,⟨t,rfl⟩,q⟩
 ·rw[if_neg ae]at q hle⊢;show⟨Wu hle hz,.str _,H,Zy 0,⟨_,rfl⟩,q⟩
theorem B4:∀{ss:Zw 0}{us:ZE 0},aS (ss.map V.str) us->StrsAre us ss
 |[],_,r=>by cases r;show .nil
 |x::ss,_,r=>by
  cases r with
  |cons h t=>let⟨tk,rfl⟩:=h;show .cons x tk (B4 t)
theorem D0:∀{us:ZE 0}{ss:Zw 0},StrsAre us ss->aS (ss.map V.str) us
 |_,_,.nil=>.nil
 |_,_,.cons x t h=>.cons ⟨t,rfl⟩ (D0 h)
theorem wX:eL X (.builtin "sorted") (λxs H Q=>∃p ss,xs=[.ref p]/\SqL X.K H p (ss.map V.str)/\ss.length<64/\
  ∀l df,H l=b_->df.Perm ss->sortedS df=true->Q (.ref l) (R_ l (.lst (df.map V.str)))):=by
 intro FR s σ H xs us Q I r h;let⟨p,ss,rfl,hq,h64,q⟩:=h;let⟨u,rfl,ru⟩:=vals1 r;cases ru
 let⟨its,rv,pl,hz⟩:=I.list hq;let hlen:=rv.length;rw[za]at hlen;refine sorted_strs pl.isList (B4 rv) ⋯ λout df a1 a2 a3=>?_;let⟨e,he⟩:=sortedAll_at s.heap its out;refine⟨.ref (s.heap.objs.size+1),_,I.laid (t':=s.toks) (o:=.lst (df.map V.str)) (λb ob h=>sortedAll_old h) (Nat.le_succ _) ?_,rfl,q _ df (I.hok.fresh (Nat.le_succ _)) a2 a3⟩;refine⟨?_,out.toList,e,D0 a1,by rw[he]⟩;rw[za,a2.length_eq];show XE (Nat.lt_trans h64 nofun)
variable{es:x_ v_}
theorem gT{k:Nat}{t:TGs}(K:y0)(hK:X.K=K)(hc:X.calm=true)(h:PGs X es t)(hn:(XB es X.env).length=n:=by rfl)(d0:(XB es X.env).findIdx? (·.1)=b_:=by rfl):PG X (.Tuple es k pos) (Ti K n t):=by subst hK;show R1 hc h hn d0
variable{e:v_}{f:qe->qe->Sem qe}{g:Int->Int->Int}
section
variable{a b:v_}{t t' tb:TE}
theorem PE.imp(h:Zx e t)(i:∀σ H Q,t' σ H Q->t σ H Q):Zx e t':=λFR s σ H Q I q=>Zd Q I (i σ H Q q)
theorem PT.imp{t t':TT}(h:PT X e t)(i:∀σ H Q,t' σ H Q->t σ H Q):PT X e t':=λFR s σ H Q I q=>Zd Q I (i σ H Q q)
theorem OpR.imp{r r':R2}(h:Y5 f r)(i:∀x y H Q,r' x y H Q->r x y H Q):Y5 f r':=λFR s σ H x y v u Q I rx ry q=>Zd x y v u Q I rx ry (i x y H Q q)
theorem eL.imp{f:qe}{r r':x_ V->Hp->VK->Prop}(h:eL X f r)(i:∀xs H Q,r' xs H Q->r xs H Q):eL X f r':=λFR s σ H xs us Q I rx q=>Zd xs us Q I rx (i xs H Q q)
def TL(K:y0):R2:=λx y H Q=>match x,y with
 |.int i,.int j=>Q (.int (i+j)) H
 |.str i,.str j=>i.length+j.length<=zf/\Q (.str (i++j)) H
 |.ref _,.ref _=>TB x y H Q\/Qt K x y H Q
 |_,_=>False
theorem Ox(K:y0)(hK:X.K=K):Y5 (WU .Add) (TL K):=by
 subst hK;refine(R'.or (Hj.or (Rq.or On))).imp λx y H Q h=>?_;cases x <;> cases y <;> first
  |exact .inl ⟨_,_,rfl,rfl,h⟩
  |exact .inr (.inl ⟨_,_,rfl,rfl,h.1,h.2⟩)
  |exact .inr (.inr h)
  |exact h.elim
def D1(C:Int->Int->Prop)(f:Int->Int->Int):R2:=λx y H Q=>match x,y with
 |.int i,.int j=>C i j/\Q (.int (f i j)) H
 |_,_=>False
def LO(f:Int->Int->Int):R2:=λx y H Q=>match x,y with
 |.int i,.int j=>Q (.int (f i j)) H
 |_,_=>False
theorem Aw{C:Int->Int->Prop}(h:Y5 f (rI C λi j=>.int (g i j))):Y5 f (D1 C g):=h.imp λx y H Q q=>by cases x <;> cases y <;> first|exact⟨_,_,rfl,rfl,q.1,q.2⟩|exact q.elim
theorem LP(h:Y5 f (rI0 λi j=>.int (g i j))):Y5 f (LO g):=h.imp λx y H Q q=>by cases x <;> cases y <;> first|exact⟨_,_,rfl,rfl,q⟩|exact q.elim
theorem Oy:Y5 (WU .Sub) (LO λi j=>i-j):=LP Ra
theorem Oz:Y5 (WU .Mult) (D1 Fo λi j=>i*j):=Aw Rb
theorem OA:Y5 (WU .FloorDiv) (D1 Lm λi j=>i/j):=Aw Oc
theorem OB:Y5 (WU .Mod) (D1 (λ_ j=>0<j) λi j=>i%j):=Aw Rc
theorem OC:Y5 (WU .Pow) (D1 JX λi j=>i ^ j.toNat):=Aw Re
def Fy(f:Int->Int->Bool)(g:x_ Nat->x_ Nat->Bool):R2:=λx y H Q=>match x,y with
 |.int i,.int j=>Q (.bl (f i j)) H
 |.str i,.str j=>Q (.bl (g i.cps.toList j.cps.toList)) H
 |_,_=>False
theorem DU{p:Int->Int->Bool}{g:x_ Nat->x_ Nat->Bool}(h1:Y5 f (rI0 λi j=>.bl (p i j)))(h2:Y5 f (λx y H Q=>∃i j,x=.str i/\y=.str j/\Q (.bl (g i.cps.toList j.cps.toList)) H)):Y5 f (Fy p g):=(h1.or h2).imp λx y H Q q=>by cases x <;> cases y <;> first|exact .inl ⟨_,_,rfl,rfl,q⟩|exact .inr ⟨_,_,rfl,rfl,q⟩|exact q.elim
theorem Ry:Y5 (VX .Lt) (Fy (λi j=>decide (i<j)) λi j=>decide (i<j)):=DU To JY
theorem Rz:Y5 (VX .Gt) (Fy (λi j=>decide (j<i)) λi j=>decide (j<i)):=DU Tq λFR s σ H x y v u Q I rx ry h=>by let⟨i,j,rfl,rfl,q⟩:=h;let⟨t,rfl⟩:=rx;let⟨t',rfl⟩:=ry;show PySem.P.gt_str (DJ I q rfl)
theorem RA:Y5 (VX .LtE) (Fy (λi j=>decide (i<=j)) λi j=>!decide (j<i)):=DU Tp λFR s σ H x y v u Q I rx ry h=>by let⟨i,j,rfl,rfl,q⟩:=h;let⟨t,rfl⟩:=rx;let⟨t',rfl⟩:=ry;show PySem.P.le_str (DJ I q rfl)
end
variable{ta:TE}{vs:x_ V}
section
variable{a b:v_}{t t' tb:TE}
theorem TM{x:V}{Q:Bool->Prop}(h:match x with|.bl c=>Q c|_=>False):∃c,x=.bl c/\Q c:=by cases x <;> first|exact⟨_,rfl,h⟩|exact h.elim
def Vj(ta tb:TE):TE:=λσ H Q=>ta σ H λx H1=>match x with
 |.bl c=>if c=true then tb σ H1 Q else Q (.bl false) H1
 |_=>False
theorem OD{rest:x_ v_}(ha:Zx a ta)(hb:Zx (.BoolOp .And (b::rest) pos) tb):Zx (.BoolOp .And (a::b::rest) pos) (Vj ta tb):=by
 intro FR s σ H Q I h;refine BoolOp_and (thn (ha FR s σ H _ I h) λv s1 hz=>?_);let⟨x,H1,I1,r1,q1⟩:=hz;let⟨c,rfl,q1⟩:=TM q1;cases r1
 refine XW ?_;cases c with
 |true=>exact hb FR s1 σ H1 Q I1 q1
 |false=>exact⟨.bl false,H1,I1,rfl,q1⟩
theorem OE(hu:X.A.units+1<cLine):IxR X (λx y H Q=>∃p v,x=.ref p/\sX H p y (a_ v)/\Q v H):=by
 intro value slice FR s σ H x y v u Q I rx ry h hs;let⟨p,w,rfl,g,q⟩:=h;cases rx
 let hT:=Fw I g;unfold subscriptTail;refine yx ?_;rw[getitemInPython_of_ne hT.not_modules];refine yx (wpAny_specialOf hT PySem.F.slot_dict_getitem.lookup ?_);let fin:wpAny (g_ X) X.A (subscripted slice false (.ref p) u) (λr s₃=>wpAny (g_ X) X.A (letTemporaryGo value (.ref p) r >>= λ_=>pure r) (Y2 Q) X.xe s₃) X.xe s:=by rw[hs];show wpAny_operating (K8 hu I g ry λw' s3 I3 cf=>yx (wpAny_letTemporaryGo (yz ⟨w,H,I3,cf,q⟩)))
 first
  |exact yz (yx fin)
  |exact yx (yz (yx fin))
  |exact yx fin
def TN(K:y0):R2:=λx y H Q=>match x with
 |.str z=>(match y with
  |.int i=>z.length<=zf/\∃c,atI z.cps.toList i=a_ c/\Q (.str ⟨#[c]⟩) H
  |_=>False)
 |.ref p=>(∃xs i v,y=.int i/\(ZI p xs\/ZD p xs)/\atI xs i=a_ v/\Q v H)\/∃v,sX H p y (a_ v)/\Q v H
 |_=>False
theorem IxR.imp{r r':R2}(h:IxR X r)(i:∀x y H Q,r' x y H Q->r x y H Q):IxR X r':=λa b FR s σ H x y v u Q I rx ry q hs=>h a b FR s σ H x y v u Q I rx ry (i x y H Q q) hs
theorem ixC(hu:X.A.units+1<cLine)(K:y0)(hK:X.K=K):IxR X (TN K):=by
 subst hK;refine(Oo.or (Rl.or (Rm.or (OE hu)))).imp λx y H Q h=>?_;cases x with
 |str z=>
  cases y with
  |int i=>let⟨h1,c,h2,h3⟩:=h;show .inr (.inr (.inl ⟨z,i,c,rfl,rfl,h1,h2,h3⟩))
  |_=>exact h.elim
 |ref p=>
  rcases h with⟨xs,i,v,rfl,hs|hs,ha,hq⟩|⟨v,g,hq⟩
  ·show .inl ⟨p,xs,i,v,rfl,rfl,hs,ha,hq⟩
  ·show .inr (.inl ⟨p,xs,i,v,rfl,rfl,hs,ha,hq⟩)
  ·show .inr (.inr (.inr ⟨p,v,rfl,g,hq⟩))
 |_=>exact h.elim
theorem RB(hu:X.A.units+1<cLine)(K:y0)(hK:X.K=K):Y5 (VX .In) (λx y H Q=>rIn K false x y H Q\/∃a o,y=.ref a/\sX H a x o/\Q (.bl o.isSome) H):=by
 subst hK;refine K4.or λFR s σ H x y v u Q I rx ry h=>?_;let⟨a,o,rfl,g,q⟩:=h;cases ry
 show Vi hu I g rx λs' I'=>⟨.bl o.isSome,H,I',rfl,q⟩
theorem Kb(hu:X.A.units+1<cLine)(K:y0)(hK:X.K=K):Y5 (VX .NotIn) (λx y H Q=>rIn K true x y H Q\/∃a o,y=.ref a/\sX H a x o/\Q (.bl (!o.isSome)) H):=by
 subst hK;refine DQ.or λFR s σ H x y v u Q I rx ry h=>?_;let⟨a,o,rfl,g,q⟩:=h;cases ry
 show Os hu I g rx λs' I'=>⟨.bl (!o.isSome),H,I',rfl,q⟩
def TQ(K:y0):x_ V->Hp->VK->Prop:=λxs H Q=>match xs with
 |[.str y]=>y.length<=zf/\Q (.int y.length) H
 |[.ref p]=>(∃xs,(ZI p xs\/ZD p xs)/\Q (.int xs.length) H)\/∃kvs,H p=a_ (.dK kvs)/\Q (.int kvs.length) H
 |_=>False
theorem Kc(K:y0)(hK:X.K=K):eL X (.builtin "len") (TQ K):=by
 subst hK;intro FR s σ H xs us Q I r h
 match xs,h with
 |[.str y],h=>exact Ls FR s σ H _ us Q I r ⟨_,_,rfl,⟨h.1,rfl⟩,h.2⟩
 |[.ref p],h=>
  rcases h with⟨ys,hs,q⟩|⟨kvs,hs,q⟩
  ·show DR FR s σ H _ us Q I r ⟨p,ys,rfl,hs,q⟩
  ·show K' FR s σ H _ us Q I r ⟨p,kvs,rfl,hs,q⟩
theorem Hx(K:y0)(hK:X.K=K):eL X (.type "list") (λxs H Q=>∃p ys,xs=[.ref p]/\(ZI p ys\/ZD p ys)/\∀l,H l=b_->Q (.ref l) (R_ l (.lst ys))):=by subst hK;show DS
theorem Fz(K:y0)(hK:X.K=K):eL X (.type "tuple") (λxs H Q=>∃p ys,xs=[.ref p]/\((ZI p ys/\∀l,H l=b_->Q (.ref l) (R_ l (.tup ys)))\/(ZD p ys/\Q (.ref p) H))):=by subst hK;show Cv
def TR(ta:TA):TI:=λσ H R=>ta σ H λvs H1=>match vs with
 |[.int j]=>(-(2 ^ 62)<=j/\j<2 ^ 62)/\R (Itr 0 j.toNat) H1
 |_=>False
theorem OF{Q:Int->Prop}(h:match vs with|[.int i]=>Q i|_=>False):∃i,vs=[.int i]/\Q i:=by
 split at h
 · show⟨_,rfl,h⟩
 · show h.elim
theorem pr1{x:v_}{ta:TA}{p:Pos}(hg:Gl X "range")(hm:X.mg "range" = b_)(ha:PA X [x] ta)(hs:zw [x] X.env=[(false,eval x X.env)]:=by rfl):PI X tg (.Call (.Name "range" p) [x] [] pos) (TR ta):=by intro FR s σ H R I h;refine Call_ (sT I hg hm boot_range (Yj (thn (Z9 0) λus s1 hz=>?_) hs rfl));let⟨vs,H1,I1,r1,q1⟩:=hz;let⟨j,rfl,⟨h1,h2⟩,q⟩:=OF q1;let⟨u,rfl,t,rfl⟩:=vals1 r1;show call_range_1 (Ll I1 ⋯ ⋯ h1 h2 (ke q))
def TU(t:TE):TO:=λσ H Q=>t σ H λx H1=>match x with
 |.int i=>Q (a_ i) H1
 |_=>False
theorem LQ{x:v_}(h:Zx x te):PO X (a_ x) (TU te):=by
 intro FR s σ H Q I hw;rw[evalPart_some];refine thn (Zd _ I hw) λu s1 hz=>?_;let⟨x,H1,I1,r1,q1⟩:=hz;cases x with
 |int i=>let⟨t,rfl⟩:=r1;show⟨a_ i,H1,I1,.int i t,q1⟩
 |_=>exact q1.elim
end
structure Def(K:y0)(mg:m_ 0)(x:Str)(st:w_)(f:r_)(fd:z6)(ps:x_ Str):Prop where
 fn:Fun K x x st f fd
 mg:mg x=c_ f
 bd:Binds K fd ps []
theorem TV{f:r_}{k:Nat}{t:TA}{p:Pos}(D:Def X.K X.mg x st f fd ps)(G:H_ CX0 k f fd ps sp)(hr:gU k X.A)(ha:PA X (e::es) t)(hg:Gl X x:=by rfl)(bg:(x == ("__debug__" : Str))=false:=by decide)(he:zw (e::es) X.env=(false,X_ 0)::U_ 0:=by rfl)(ba:(Ze (U_ 0)).any (·.1)=false:=by rfl):
  Zx (.Call (.Name x p) (e::es) [] pos) (Lw sp [] E0 t):=Oi G hr hg D.mg D.fn.kp D.bd .nil CV ha bg he ba
theorem RC{α:Type}{xs:x_ α}{i:Int}(h0:0<=i)(h1:i<xs.length):∃v,atI xs i=a_ v/\xs[i.toNat]?=a_ v:=by
 let h2:i.toNat<xs.length:=⋯;refine⟨xs[i.toNat],?_,by simp[h2]⟩;unfold atI ixN;rw[if_pos h0,if_pos h1];simp[h2]
theorem wY{α:Type}{xs:x_ α}{v:α}(h:xs[i]?=a_ v):atI xs (i:Int)=a_ v:=by let h1:=(yy.mp h).1;unfold atI ixN;rw[if_pos ⋯,if_pos ⋯];simpa using h
theorem Fv.upd{o:HO}(h:H a=b_):Fv H (R_ a o):=λb u e=>by rw[aQ (fG e h)];show e
theorem Def.mk'{h:t_}{f:r_}{oc:qe}{kV:qe}(X:K.In h)(G:h.Ns WD mg)(a:YM K WD x=a_ (c_ f))(l:K.lookup f=a_ ⟨oc,od,.func (Xc x x (hV st) (fM st) (aJ st) .none kV doc pm an cdv ct),osl⟩)(c:Yz K cdv x=true)(k:WO K (.ref f)=true)(b:∀(kV doc pm:qe)(an:y_ r_)(cdv ct:qe)(us:ZE 0),us.length=ps.length->bindArgs (Xc x x (hV st) (fM st) (aJ st) .none kV doc pm an cdv ct) ⟨us,[]⟩=pure (ps.zip us)):
  Zt x st f (Xc x x (hV st) (fM st) (aJ st) .none kV doc pm an cdv ct) ps:=
 ⟨B0 l c k,YT X G a,(B0 (st:=st) l c k).binds b⟩
open PySem.SeqAt
inductive D where
 |non|bl (b:Bool)|int (i:Int)|str (x:Str)|tup (xs:x_ D)
mutual
def D.depth:D->Nat
 |.tup xs=>D.depths xs+1
 |_=>0
def D.depths:x_ D->Nat
 |[]=>0
 |x::xs=>max (D.depth x) (D.depths xs)
end
theorem D.depths_le:∀{xs:x_ D}{i:Nat}{d:D},xs[i]?=a_ d->d.depth<=D.depths xs
 |[],_,_,h=>by simp at h
 |x::xs,0,d,h=>by
  have:x=d:=by simpa using h
  subst this
  change x.depth<=max x.depth (D.depths xs)
  omega
 |x::xs,i+1,d,h=>by
  have:=D.depths_le (xs:=xs) (i:=i) (d:=d) (ke h)
  change d.depth<=max x.depth (D.depths xs)
  omega
mutual
def Rep(K:y0)(H:Hp):D->V->Prop
 |.non,v=>v=.non
 |.bl b,v=>v=.bl b
 |.int i,v=>v=.int i
 |.str x,v=>v=.str x
 |.tup ds,v=>∃a vs,v=.ref a/\ZD a vs/\eO K H ds vs
def eO(K:y0)(H:Hp):x_ D->x_ V->Prop
 |[],[]=>True
 |d::ds,v::vs=>Rep K H d v/\eO K H ds vs
 |[],_::_=>False
 |_::_,[]=>False
end
mutual
def eqD:D->D->Bool
 |.non,.non=>true
 |.bl a,.bl b=>a == b
 |.bl a,.int b=>(if a then 1 else 0) == b
 |.int a,.bl b=>a == (if b then 1 else 0)
 |.int a,.int b=>a == b
 |.str a,.str b=>a == b
 |.tup xs,.tup ys=>iO xs ys
 |_,_=>false
def iO:x_ D->x_ D->Bool
 |[],[]=>true
 |x::xs,y::ys=>eqD x y&&iO xs ys
 |[],_::_=>false
 |_::_,[]=>false
end
mutual
def ltD:D->D->y_ Bool
 |.int a,.int b=>a_ (decide (a<b))
 |.str a,.str b=>a_ (decide (a.cps.toList<b.cps.toList))
 |.tup xs,.tup ys=>sZ xs ys
 |_,_=>b_
def sZ:x_ D->x_ D->y_ Bool
 |[],[]=>a_ false
 |[],_::_=>a_ true
 |_::_,[]=>a_ false
 |x::xs,y::ys=>if eqD x y=true then sZ xs ys else ltD x y
end
mutual
theorem nB:∀d:D,eqD d d=true
 |.non=>rfl
 |.bl b=>by simp[eqD]
 |.int i=>by simp[eqD]
 |.str x=>by simp[eqD]
 |.tup xs=>by simp only[eqD];show D2 xs
theorem D2:∀ds:x_ D,iO ds ds=true
 |[]=>rfl
 |d::ds=>by simp only[iO,nB d,D2 ds,Bool.and_self]
end
def nX(H H':Hp):Prop:=∀a xs,Rd H a (.tup xs)->Rd H' a (.tup xs)
theorem nX.refl(H:Hp):nX H H:=λ_ _ h=>h
variable{H1 H2:Hp}
theorem nX.trans(a:nX H H1)(b:nX H1 H2):nX H H2:=λc xs h=>b c xs (a c xs h)
theorem nX.same(s:Fv H H'):nX H H':=λa xs h=>by
 rcases h with h|⟨o,h⟩
 ·show .inl (s _ _ h)
 ·show .inr ⟨o,s _ _ h⟩
def zJ:y_ HO->Prop
 |some (.tup _)=>False
 |some (.frz _ _)=>False
 |_=>True
theorem nX.upd{p:r_}{o:HO}(h:zJ (H p)):nX H (R_ p o):=λa xs q=>by
 let ne:a≠p:=by
  rintro rfl;rcases q with q|⟨ob,q⟩
  ·rw[q]at h;show h
  ·rw[q]at h;show h
 rcases q with q|⟨ob,q⟩
 ·show .inl (by rw[aQ ne];show q)
 ·show .inr ⟨ob,by rw[aQ ne];show q⟩
theorem nX.sq{xs:x_ V}(t:nX H H')(h:ZD a xs):SqT K H' a xs:=by
 rcases h with h|h
 ·show .inl (t a xs h)
 ·show .inr h
mutual
theorem Rep.tp(t:nX H H'):∀{d:D}{v:V},Rep K H d v->Rep K H' d v
 |.non,_,h=>h
 |.bl _,_,h=>h
 |.int _,_,h=>h
 |.str _,_,h=>h
 |.tup ds,_,⟨a,vs,e,q,r⟩=>⟨a,vs,e,t.sq q,eO.tp t r⟩
theorem eO.tp(t:nX H H'):∀{ds:x_ D}{vs:x_ V},eO K H ds vs->eO K H' ds vs
 |[],[],_=>trivial
 |_::_,_::_,⟨h,r⟩=>⟨Rep.tp t h,eO.tp t r⟩
 |[],_::_,h=>h.elim
 |_::_,[],h=>h.elim
end
theorem eO.length:∀{ds:x_ D}{vs:x_ V},eO K H ds vs->ds.length=vs.length
 |[],[],_=>rfl
 |_::_,_::_,⟨_,r⟩=>by simp[eO.length r]
 |[],_::_,h=>h.elim
 |_::_,[],h=>h.elim
theorem eO.get:∀{ds:x_ D}{vs:x_ V}{i:Nat}{v:V},eO K H ds vs->vs[i]?=a_ v->∃d,ds[i]?=a_ d/\Rep K H d v
 |[],[],_,_,_,e=>by simp at e
 |d::_,w::_,0,v,⟨h,_⟩,e=>by
  have:w=v:=by simpa using e
  subst this;show⟨d,rfl,h⟩
 |_::ds,_::vs,i+1,v,⟨_,r⟩,e=>by
  let⟨d,h1,h2⟩:=eO.get (ds:=ds) (vs:=vs) (i:=i) (v:=v) r (ke e);show⟨d,ke h1,h2⟩
 |[],_::_,_,_,h,_=>h.elim
 |_::_,[],_,_,h,_=>h.elim
theorem eO.at:∀{ds:x_ D}{vs:x_ V}{i:Nat}{d:D},eO K H ds vs->ds[i]?=a_ d->∃v,vs[i]?=a_ v/\Rep K H d v
 |[],[],_,_,_,e=>by simp at e
 |d::_,w::_,0,d',⟨h,_⟩,e=>by
  have:d=d':=by simpa using e
  subst this;show⟨w,rfl,h⟩
 |_::ds,_::vs,i+1,d,⟨_,r⟩,e=>by
  let⟨v,h1,h2⟩:=eO.at (ds:=ds) (vs:=vs) (i:=i) (d:=d) r (ke e);show⟨v,ke h1,h2⟩
 |[],_::_,_,_,h,_=>h.elim
 |_::_,[],_,_,h,_=>h.elim
variable{b:Bool}{cg:x_ V}{its its':ZE 0}
section
theorem iP{v:qe}(h:RcAt A s v u b)(hs:v=u->b=true)(hf:∀f t,v≠.float f t):EqAt A s v u b:=λprog w E Q hq=>by
 unfold eqBool;refine WV ?_;refine wpAny_ite_split (λxt=>?_) (λ_=>?_)
 ·let e:=hs (eq_of_beq xt);subst e;show yx (YN (yz hq))
 ·cases v <;> first|exact absurd rfl (hf _ _)|exact yx (h prog w E _ (XW hq))|(cases u <;> exact yx (h prog w E _ (XW hq)))
theorem D3{d:D}{x:V}{v:qe}(h:Rep K H d x)(r:Zr v):∀f t,v≠.float f t:=λf t e=>by
 subst e;cases d with
 |non=>cases h;cases r
 |bl b=>cases h;cases r
 |int b=>cases h;let⟨_,z⟩:=r;cases z
 |str b=>cases h;let⟨_,z⟩:=r;cases z
 |tup ds=>let⟨_,_,rfl,_⟩:=h;cases r
theorem rO(I:N_ s):∀(n:Nat)(d e:D)(v:V),d.depth<=n->Rep X.K H d v->Rep X.K H e v->d=e
 |n,.non,e,v,_,h,h'=>by
  cases h
  cases e <;> first|(let⟨_,_,z,_⟩:=h';show absurd z (by intro q;cases q))|rfl|exact absurd h' (by intro z;cases z)
 |n,.bl b,e,v,_,h,h'=>by
  cases h
  cases e <;> first|(let⟨_,_,z,_⟩:=h';show absurd z (by intro q;cases q))|(cases h';rfl)|exact absurd h' (by intro z;cases z)
 |n,.int i,e,v,_,h,h'=>by
  cases h
  cases e <;> first|(let⟨_,_,z,_⟩:=h';show absurd z (by intro q;cases q))|(cases h';rfl)|exact absurd h' (by intro z;cases z)
 |n,.str x,e,v,_,h,h'=>by
  cases h
  cases e <;> first|(let⟨_,_,z,_⟩:=h';show absurd z (by intro q;cases q))|(cases h';rfl)|exact absurd h' (by intro z;cases z)
 |0,.tup ds,e,v,hd,h,h'=>absurd hd (by change ¬ Q_ 0+1<=0;omega)
 |n+1,.tup ds,e,v,hd,h,h'=>by
  let⟨a,vs,rfl,q,r⟩:=h;cases e with
  |tup es=>
   let⟨a',cg,ea,q',r'⟩:=h';cases ea
   have:=I.tuple_inj q q';subst this;let bq:Q_ 0+1<=n+1:=hd;have:ds=es:=by
    apply Xt;intro i;cases hi:ds[i]? with
    |none=>have h1:=r.length;let h2:=r'.length;have:ds.length<=i:=List.getElem?_eq_none_iff.mp hi;show(List.getElem?_eq_none_iff.mpr ⋯).symm
    |some d=>let⟨v,hv,hr⟩:=r.at hi;let⟨e,he,q0⟩:=r'.get hv;rw[he,rO I n d e v (by have:=D.depths_le hi;omega) hr q0]
   rw[this]
  |_=>cases h'
theorem uW{xs ys:x_ D}:((z0 (min xs.length ys.length)).all (λj=>match xs[j]?,ys[j]? with|some x,a_ y=>eqD x y|_,_=>false)&&xs.length == ys.length)=iO xs ys:=by
 induction xs generalizing ys with
 |nil=>
  cases ys with
  |nil=>rfl
  |cons y ys=>simp[iO]
 |cons x xs ih=>
  cases ys with
  |nil=>simp[iO]
  |cons y ys=>
   have:=ih (ys:=ys);let e:min (x::xs).length (y::ys).length=min xs.length ys.length+1:=by simp only[Wi];omega
   rw[e,Yf,Xq,List.all_map];simp only[List.getElem?_cons_zero,YW,W7,Wi,iO];rw[<-this];let e2:(xs.length+1 == ys.length+1)=(xs.length == ys.length):=by simp
   rw[e2,Bool.and_assoc]
theorem TX(I:N_ s):∀(n:Nat)(d e:D)(A:td)(x y:V)(v u:qe),d.depth<=n->A.units+n<cLine->Rep X.K H d x->Rep X.K H e y->Zr v->Z4 u->RcAt A s v u (eqD d e):=by
 intro n
 induction n with
 |zero=>
  intro d e A x y v u hd hu hx hy rx ry;cases d with
  |tup ds=>exact absurd hd (by change ¬ Q_ 0+1<=0;omega)
  |non=>
   cases hx;cases rx;cases e with
   |non=>cases hy;cases ry;show RcAt.none_none
   |bl b=>cases hy;cases ry;show RcAt.none_bool b
   |int b=>cases hy;let⟨t,rfl⟩:=ry;show RcAt.none_int b t
   |str b=>cases hy;let⟨t,rfl⟩:=ry;show RcAt.none_str b t
   |tup es=>let⟨a,vs,rfl,q,r⟩:=hy;cases ry;let⟨its,_,p,_⟩:=I.tuple q;show RcAt.none_tuple p ⋯
  |bl a=>
   cases hx;cases rx;cases e with
   |non=>cases hy;cases ry;show RcAt.bool_none a
   |bl b=>cases hy;cases ry;show RcAt.bool_bool a b
   |int b=>cases hy;let⟨t,rfl⟩:=ry;show RcAt.bool_int a b t
   |str b=>cases hy;let⟨t,rfl⟩:=ry;show RcAt.bool_str a b t
   |tup es=>let⟨a',vs,rfl,q,r⟩:=hy;cases ry;let⟨its,_,p,_⟩:=I.tuple q;show RcAt.bool_tuple a p ⋯
  |int a=>
   cases hx;let⟨t',rfl⟩:=rx;cases e with
   |non=>cases hy;cases ry;show RcAt.int_none a t'
   |bl b=>cases hy;cases ry;show RcAt.int_bool a t' b
   |int b=>cases hy;let⟨t,rfl⟩:=ry;show RcAt.int_int a t' b t
   |str b=>cases hy;let⟨t,rfl⟩:=ry;show RcAt.int_str a t' b t
   |tup es=>let⟨a',vs,rfl,q,r⟩:=hy;cases ry;let⟨its,_,p,_⟩:=I.tuple q;show RcAt.int_tuple a t' p ⋯
  |str a=>
   cases hx;let⟨t',rfl⟩:=rx;cases e with
   |non=>cases hy;cases ry;show RcAt.str_none a t'
   |bl b=>cases hy;cases ry;show RcAt.str_bool a t' b
   |int b=>cases hy;let⟨t,rfl⟩:=ry;show RcAt.str_int a t' b t
   |str b=>cases hy;let⟨t,rfl⟩:=ry;show RcAt.str_str a t' b t
   |tup es=>let⟨a',vs,rfl,q,r⟩:=hy;cases ry;let⟨its,_,p,_⟩:=I.tuple q;show RcAt.str_tuple a t' p ⋯
 |succ n ih=>
  intro d e A x y v u hd hu hx hy rx ry;by_cases h0:d.depth<=n
  ·show ih d e A x y v u h0 ⋯ hx hy rx ry
  ·cases d with
   |non=>exact absurd (show D.depth .non<=n from z8 n) h0
   |bl b=>exact absurd (show D.depth (.bl b)<=n from z8 n) h0
   |int b=>exact absurd (show D.depth (.int b)<=n from z8 n) h0
   |str b=>exact absurd (show D.depth (.str b)<=n from z8 n) h0
   |tup ds=>
    let ig:Q_ 0<=n:=by have:Q_ 0+1<=n+1:=hd;omega
    let⟨a,vs,rfl,q,r⟩:=hx;cases rx
    let⟨its,rv,p,_⟩:=I.tuple q;cases e with
    |non=>cases hy;cases ry;show RcAt.tuple_none p ⋯
    |bl b=>cases hy;cases ry;show RcAt.tuple_bool b p ⋯
    |int b=>cases hy;let⟨t,rfl⟩:=ry;show RcAt.tuple_int b t p ⋯
    |str b=>cases hy;let⟨t,rfl⟩:=ry;show RcAt.tuple_str b t p ⋯
    |tup es=>
     let⟨a',cg,rfl,q',r'⟩:=hy;cases ry
     let⟨its',aq,p',_⟩:=I.tuple q';let l1:=r.length;let l2:=r'.length;let l3:=rv.length;let l4:=aq.length;let key:=RcAt.tuples (A:=A) (e:=λj=>match ds[j]?,es[j]? with|some x,a_ y=>eqD x y|_,_=>false) p p' ⋯ (λj h1 h2=>by
      let di:j<ds.length:=by simp at h1;omega
      let cz:j<es.length:=by simp at h2;omega
      let g1:ds[j]?=a_ ds[j]:=by simp[di]
      let g2:es[j]?=a_ es[j]:=by simp[cz]
      let⟨xv,iu,d9⟩:=r.at g1;let⟨yv,ja,gf⟩:=r'.at g2;let⟨xu,gw,cj⟩:=rv.get iu;let⟨yu,fv,bh⟩:=aq.get ja;let e1:its.toArray[j]=xu:=by have:its[j]?=a_ xu:=gw;simpa using(yy.mp this).2
      let e2:its'.toArray[j]=yu:=by have:its'[j]?=a_ yu:=fv;simpa using(yy.mp this).2
      rw[e1,e2];simp only[g1,g2];let oj:=D.depths_le g1;refine iP (ih ds[j] es[j] A.in1 xv yv xu yu ⋯ (by change A.units+1+n<cLine;omega) d9 gf cj bh) (λev=>by
      subst ev;let qk:xv=yv:=RelV.inj cj bh;subst qk;rw[rO I n ds[j] es[j] xv ⋯ d9 gf];show nB _) (D3 d9 cj))
     let sz:((z0 (min its.toArray.size its'.toArray.size)).all (λj=>match ds[j]?,es[j]? with|some x,a_ y=>eqD x y|_,_=>false)&&its.toArray.size == its'.toArray.size)=eqD (.tup ds) (.tup es):=by
      let a1:its.toArray.size=ds.length:=by simp;omega
      let a2:its'.toArray.size=es.length:=by simp;omega
      rw[a1,a2];simp only[eqD];show uW
     rw[<-sz];show key
theorem LR(I:N_ s){d e:D}{x:V}{v:qe}(hd:d.depth<=n)(hu:A.units+n<cLine)(hx:Rep X.K H d x)(hy:Rep X.K H e y)(rx:Zr v)(ry:Z4 u):EqAt A s v u (eqD d e):=iP (TX I n d e A x y v u hd hu hx hy rx ry) (λev=>by subst ev;let qk:x=y:=RelV.inj rx ry;subst qk;rw[rO I n d e x hd hx hy];show nB _) (D3 hx rx)
theorem RD(I:N_ s):∀(n:Nat)(d e:D)(A:td)(x y:V)(v u:qe),d.depth<=n->A.units+n<cLine->Rep X.K H d x->Rep X.K H e y->Zr v->Z4 u->RcNeAt A s v u (!eqD d e):=by
 intro n
 induction n with
 |zero=>
  intro d e A x y v u hd hu hx hy rx ry;cases d with
  |tup ds=>exact absurd hd (by change ¬ Q_ 0+1<=0;omega)
  |non=>
   cases hx;cases rx;cases e with
   |non=>cases hy;cases ry;show RcNeAt.none_none
   |bl b=>cases hy;cases ry;show RcNeAt.none_bool b
   |int b=>cases hy;let⟨t,rfl⟩:=ry;show RcNeAt.none_int b t
   |str b=>cases hy;let⟨t,rfl⟩:=ry;show RcNeAt.none_str b t
   |tup es=>let⟨a,vs,rfl,q,r⟩:=hy;cases ry;let⟨its,_,p,_⟩:=I.tuple q;show RcNeAt.none_tuple p ⋯
  |bl a=>
   cases hx;cases rx;cases e with
   |non=>cases hy;cases ry;show RcNeAt.bool_none a
   |bl b=>cases hy;cases ry;show RcNeAt.bool_bool a b
   |int b=>cases hy;let⟨t,rfl⟩:=ry;show RcNeAt.bool_int a b t
   |str b=>cases hy;let⟨t,rfl⟩:=ry;show RcNeAt.bool_str a b t
   |tup es=>let⟨a',vs,rfl,q,r⟩:=hy;cases ry;let⟨its,_,p,_⟩:=I.tuple q;show RcNeAt.bool_tuple a p ⋯
  |int a=>
   cases hx;let⟨t',rfl⟩:=rx;cases e with
   |non=>cases hy;cases ry;show RcNeAt.int_none a t'
   |bl b=>cases hy;cases ry;show RcNeAt.int_bool a t' b
   |int b=>cases hy;let⟨t,rfl⟩:=ry;show RcNeAt.int_int a t' b t
   |str b=>cases hy;let⟨t,rfl⟩:=ry;show RcNeAt.int_str a t' b t
   |tup es=>let⟨a',vs,rfl,q,r⟩:=hy;cases ry;let⟨its,_,p,_⟩:=I.tuple q;show RcNeAt.int_tuple a t' p ⋯
  |str a=>
   cases hx;let⟨t',rfl⟩:=rx;cases e with
   |non=>cases hy;cases ry;show RcNeAt.str_none a t'
   |bl b=>cases hy;cases ry;show RcNeAt.str_bool a t' b
   |int b=>cases hy;let⟨t,rfl⟩:=ry;show RcNeAt.str_int a t' b t
   |str b=>cases hy;let⟨t,rfl⟩:=ry;show RcNeAt.str_str a t' b t
   |tup es=>let⟨a',vs,rfl,q,r⟩:=hy;cases ry;let⟨its,_,p,_⟩:=I.tuple q;show RcNeAt.str_tuple a t' p ⋯
 |succ n ih=>
  intro d e A x y v u hd hu hx hy rx ry;by_cases h0:d.depth<=n
  ·show ih d e A x y v u h0 ⋯ hx hy rx ry
  ·cases d with
   |non=>exact absurd (show D.depth .non<=n from z8 n) h0
   |bl b=>exact absurd (show D.depth (.bl b)<=n from z8 n) h0
   |int b=>exact absurd (show D.depth (.int b)<=n from z8 n) h0
   |str b=>exact absurd (show D.depth (.str b)<=n from z8 n) h0
   |tup ds=>
    let ig:Q_ 0<=n:=by have:Q_ 0+1<=n+1:=hd;omega
    let⟨a,vs,rfl,q,r⟩:=hx;cases rx
    let⟨its,rv,p,_⟩:=I.tuple q;cases e with
    |non=>cases hy;cases ry;show RcNeAt.tuple_none p ⋯
    |bl b=>cases hy;cases ry;show RcNeAt.tuple_bool b p ⋯
    |int b=>cases hy;let⟨t,rfl⟩:=ry;show RcNeAt.tuple_int b t p ⋯
    |str b=>cases hy;let⟨t,rfl⟩:=ry;show RcNeAt.tuple_str b t p ⋯
    |tup es=>
     let⟨a',cg,rfl,q',r'⟩:=hy;cases ry
     let⟨its',aq,p',_⟩:=I.tuple q';let l1:=r.length;let l2:=r'.length;let l3:=rv.length;let l4:=aq.length;let key:=RcNeAt.tuples (A:=A) (e:=λj=>match ds[j]?,es[j]? with|some x,a_ y=>eqD x y|_,_=>false) p p' ⋯ (λj h1 h2=>by
      let di:j<ds.length:=by simp at h1;omega
      let cz:j<es.length:=by simp at h2;omega
      let g1:ds[j]?=a_ ds[j]:=by simp[di]
      let g2:es[j]?=a_ es[j]:=by simp[cz]
      let⟨xv,iu,d9⟩:=r.at g1;let⟨yv,ja,gf⟩:=r'.at g2;let⟨xu,gw,cj⟩:=rv.get iu;let⟨yu,fv,bh⟩:=aq.get ja;let e1:its.toArray[j]=xu:=by have:its[j]?=a_ xu:=gw;simpa using(yy.mp this).2
      let e2:its'.toArray[j]=yu:=by have:its'[j]?=a_ yu:=fv;simpa using(yy.mp this).2
      rw[e1,e2];simp only[g1,g2];let oj:=D.depths_le g1;show LR I (n:=n) ⋯ (by change A.units+1+n<cLine;omega) d9 gf cj bh)
     let sz:(!((z0 (min its.toArray.size its'.toArray.size)).all (λj=>match ds[j]?,es[j]? with|some x,a_ y=>eqD x y|_,_=>false)&&its.toArray.size == its'.toArray.size))=(!eqD (.tup ds) (.tup es)):=by
      let a1:its.toArray.size=ds.length:=by simp;omega
      let a2:its'.toArray.size=es.length:=by simp;omega
      rw[a1,a2];simp only[eqD];rw[uW]
     rw[<-sz];show key
def Vk(K:y0):R2:=λx y H Q=>∃d e,Rep K H d x/\Rep K H e y/\d.depth<=40/\Q (.bl (eqD d e)) H
def Vl(K:y0):R2:=λx y H Q=>∃d e,Rep K H d x/\Rep K H e y/\d.depth<=40/\Q (.bl (!eqD d e)) H
theorem RF(hu:X.A.units+64<cLine)(K:y0)(hK:X.K=K):Y5 (VX .Eq) (Vk K):=by subst hK;intro FR s σ H x y v u Q I rx ry h;let⟨d,e,hx,hy,hd,q⟩:=h;show TX I 40 d e X.A x y v u hd ⋯ hx hy rx ry X.prog X.w X.xe _ ⟨.bl _,H,I,rfl,q⟩
theorem RG(hu:X.A.units+64<cLine)(K:y0)(hK:X.K=K):Y5 (VX .NotEq) (Vl K):=by subst hK;intro FR s σ H x y v u Q I rx ry h;let⟨d,e,hx,hy,hd,q⟩:=h;show RD I 40 d e X.A x y v u hd ⋯ hx hy rx ry X.prog X.w X.xe _ ⟨.bl _,H,I,rfl,q⟩
def FA(K:y0)(H:Hp)(ds:x_ D)(v:V):Prop:=∃a vs,v=.ref a/\ZI a vs/\eO K H ds vs
theorem wZ{xs ys:x_ D}(h:xs.length=ys.length):(z0 xs.length).all (λj=>match xs[j]?,ys[j]? with|some x,a_ y=>eqD x y|_,_=>false)=iO xs ys:=by have:=uW (xs:=xs) (ys:=ys);rw[h,Nat.min_self,beq_self_eq_true,Bool.and_true]at this;rw[h];show this
theorem B5{xs ys:x_ D}(h:iO xs ys=true):xs.length=ys.length:=by rw[<-uW,zp]at h;show eq_of_beq h.2
theorem tB{I:N_ s}{ds es:x_ D}(r:eO X.K H ds vs)(r':eO X.K H es cg)(rv:aS vs its)(aq:aS cg its')(hd:Q_ 0<=40)(hu:A.units+42<cLine):
  ∀j(h1:j<its.toArray.size)(h2:j<its'.toArray.size),EqAt A.in1 s its.toArray[j] its'.toArray[j] (match ds[j]?,es[j]? with|some x,a_ y=>eqD x y|_,_=>false):=λj h1 h2=>by
 let l1:=r.length;let l2:=r'.length;let l3:=rv.length;let l4:=aq.length;let di:j<ds.length:=by simp at h1;omega
 let cz:j<es.length:=by simp at h2;omega
 let g1:ds[j]?=a_ ds[j]:=by simp[di]
 let g2:es[j]?=a_ es[j]:=by simp[cz]
 let⟨xv,iu,d9⟩:=r.at g1;let⟨yv,ja,gf⟩:=r'.at g2;let⟨xu,gw,cj⟩:=rv.get iu;let⟨yu,fv,bh⟩:=aq.get ja;let e1:its.toArray[j]=xu:=by simpa using(yy.mp gw).2
 let e2:its'.toArray[j]=yu:=by simpa using(yy.mp fv).2
 rw[e1,e2];simp only[g1,g2];let oj:=D.depths_le g1;show LR I (n:=40) ⋯ (by change A.units+1+40<cLine;omega) d9 gf cj bh
def Vm(K:y0):R2:=λx y H Q=>∃ds es,FA K H ds x/\FA K H es y/\Q_ 0<=40/\Q (.bl (iO ds es)) H
def Vn(K:y0):R2:=λx y H Q=>∃ds es,FA K H ds x/\FA K H es y/\Q_ 0<=40/\Q (.bl (!iO ds es)) H
theorem RK(hu:X.A.units+64<cLine)(K:y0)(hK:X.K=K):Y5 (VX .Eq) (Vm K):=by
 subst hK;intro FR s σ H x y v u Q I rx ry h;let⟨ds,es,⟨a,vs,rfl,q,r⟩,⟨b,cg,rfl,q',r'⟩,hd,k⟩:=h;cases rx;cases ry;let⟨its,rv,p,_⟩:=I.list q;let⟨its',aq,p',_⟩:=I.list q';let l1:=r.length;let l2:=r'.length;let l3:=rv.length;let l4:=aq.length;by_cases hl:ds.length=es.length
 ·refine eq_listAt p.isList p'.isList (by simp;omega) ⋯ (tB (I:=I) r r' rv aq hd ⋯) ⟨.bl _,H,I,rfl,?_⟩;let e1:its.toArray.size=ds.length:=by simp;omega
  rw[e1,wZ hl];show k
 ·refine eq_list_lengthsAt p.isList p'.isList (by simp;omega) ⋯ ⟨.bl false,H,I,rfl,?_⟩;let e:iO ds es=false:=by
   cases h:iO ds es with
   |false=>rfl
   |true=>exact absurd (B5 h) hl
  rw[e]at k;show k
theorem RM(hu:X.A.units+64<cLine)(K:y0)(hK:X.K=K):Y5 (VX .NotEq) (Vn K):=by
 subst hK;intro FR s σ H x y v u Q I rx ry h;let⟨ds,es,⟨a,vs,rfl,q,r⟩,⟨b,cg,rfl,q',r'⟩,hd,k⟩:=h;cases rx;cases ry;let⟨its,rv,p,_⟩:=I.list q;let⟨its',aq,p',_⟩:=I.list q';let l1:=r.length;let l2:=r'.length;let l3:=rv.length;let l4:=aq.length;by_cases hl:ds.length=es.length
 ·refine RcNeAt.lists p.isList p'.isList (by simp;omega) ⋯ (tB (I:=I) r r' rv aq hd ⋯) X.prog X.w X.xe _ ⟨.bl _,H,I,rfl,?_⟩;let e1:its.toArray.size=ds.length:=by simp;omega
  rw[e1,wZ hl];show k
 ·refine RcNeAt.lists_lengths p.isList p'.isList (by simp;omega) ⋯ X.prog X.w X.xe _ ⟨.bl true,H,I,rfl,?_⟩;let e:iO ds es=false:=by
   cases h:iO ds es with
   |false=>rfl
   |true=>exact absurd (B5 h) hl
  rw[e]at k;show k
def TY(K:y0)(neg:Bool):R2:=λx y H Q=>∃d p ds vs,y=.ref p/\(ZI p vs\/ZD p vs)/\Rep K H d x/\eO K H ds vs/\Q_ 0<=40/\Q (.bl (if neg then !ds.any (λe=>eqD e d) else ds.any (λe=>eqD e d))) H
noncomputable def isD(K:y0)(H:Hp)(d:D)(u:qe):Bool:=@decide (∃e x,Zr u/\Rep K H e x/\e.depth<=40/\eqD e d=true) (W8 _)
theorem LS(I:N_ s){d e:D}{x:V}(r:Zr u)(h:Rep X.K H e x)(hd:e.depth<=40):Z0 d u=eqD e d:=by
 unfold isD;cases q:eqD e d with
 |true=>exact @decide_eq_true _ (W8 _) ⟨e,x,r,h,hd,q⟩
 |false=>refine @decide_eq_false _ (W8 _) ?_;rintro⟨e',x',r',h',bq,q'⟩;let ex:x'=x:=RelV.inj r' r;subst ex;rw[rO I 40 e' e x' bq h' h]at q';rw[q]at q';cases q'
theorem uX(I:N_ s){d:D}:∀{ds:x_ D}{vs:x_ V}{us:ZE 0},eO X.K H ds vs->aS vs us->Q_ 0<=40->us.any (Z0 d)=ds.any λe=>eqD e d
 |[],[],_,_,.nil,_=>rfl
 |e::ds,_::_,_,⟨h,r⟩,.cons rv eu,hd=>by
  let h1:e.depth<=40/\Q_ 0<=40:=by have:max e.depth (Q_ 0)<=40:=hd;omega
  rw[Ys,Ys,LS I rv h h1.1,uX I r eu h1.2]
 |[],_::_,_,h,_,_=>h.elim
 |_::_,[],_,h,_,_=>h.elim
theorem uY(I:N_ s){A:td}{d:D}{x:V}{v:qe}(hx:Rep X.K H d x)(rx:Zr v)(hu:A.units+42<cLine):∀{ds:x_ D}{vs:x_ V}{us:ZE 0},eO X.K H ds vs->aS vs us->Q_ 0<=40->∀u∈us,EqAt A.in1 s u v (Z0 d u)
 |[],[],_,_,.nil,_=>λu hu=>by cases hu
 |e::ds,_::_,_,⟨h,r⟩,.cons rv eu,hd=>λu hm=>by
  let h1:e.depth<=40/\Q_ 0<=40:=by have:max e.depth (Q_ 0)<=40:=hd;omega
  rcases zq.mp hm with rfl|hm
  ·rw[LS I rv h h1.1];show LR I (n:=40) h1.1 (by change A.units+1+40<cLine;omega) h hx rv rx
  ·show uY I hx rx hu r eu h1.2 u hm
 |[],_::_,_,h,_,_=>h.elim
 |_::_,[],_,h,_,_=>h.elim
theorem RP(hu:X.A.units+64<cLine)(K:y0)(hK:X.K=K):Y5 (VX .In) (TY K false):=by
 subst hK;intro FR s σ H x y v u Q I rx ry h;let⟨d,p,ds,vs,rfl,hq,hx,hr,hd,k⟩:=h;cases ry
 rcases hq with hq|hq
 ·let⟨its,r,pl,hz⟩:=I.list hq;refine SeqAt.in_listAt (Z0 d) pl.isList (λw hw=>uY I hx rx ⋯ hr r hd w (ke hw)) ⟨.bl _,H,I,rfl,?_⟩;rw[show its.toArray.any (Z0 d)=its.any (Z0 d) by simp,uX I hr r hd];show k
 ·let⟨its,r,pl,hz⟩:=I.tuple hq;refine SeqAt.in_tupleAt (Z0 d) pl (λw hw=>uY I hx rx ⋯ hr r hd w (ke hw)) ⟨.bl _,H,I,rfl,?_⟩;rw[show its.toArray.any (Z0 d)=its.any (Z0 d) by simp,uX I hr r hd];show k
theorem Ke(hu:X.A.units+64<cLine)(K:y0)(hK:X.K=K):Y5 (VX .NotIn) (TY K true):=by
 subst hK;intro FR s σ H x y v u Q I rx ry h;let⟨d,p,ds,vs,rfl,hq,hx,hr,hd,k⟩:=h;cases ry
 rcases hq with hq|hq
 ·let⟨its,r,pl,hz⟩:=I.list hq;refine SeqAt.notIn_listAt (Z0 d) pl.isList (λw hw=>uY I hx rx ⋯ hr r hd w (ke hw)) ⟨.bl _,H,I,rfl,?_⟩;rw[show its.toArray.any (Z0 d)=its.any (Z0 d) by simp,uX I hr r hd];show k
 ·let⟨its,r,pl,hz⟩:=I.tuple hq;refine SeqAt.notIn_tupleAt (Z0 d) pl (λw hw=>uY I hx rx ⋯ hr r hd w (ke hw)) ⟨.bl _,H,I,rfl,?_⟩;rw[show its.toArray.any (Z0 d)=its.any (Z0 d) by simp,uX I hr r hd];show k
end
open PySem
def keyLt:Sum Int Str->Sum Int Str->Bool
 |.inl a,.inl b=>decide (a<b)
 |.inr a,.inr b=>decide (a.cps.toList<b.cps.toList)
 |_,_=>false
def cD:x_ (Sum Int Str)->x_ (Sum Int Str)->Bool
 |[],[]=>false
 |[],_::_=>true
 |_::_,[]=>false
 |x::xs,y::ys=>if x=y then cD xs ys else keyLt x y
def fS:Sum Int Str->Bool
 |.inl _=>true
 |.inr _=>false
abbrev shape(ks:x_ (Sum Int Str)):x_ Bool:=ks.map fS
theorem Ja{a b:Str}(h:a.cps.toList=b.cps.toList):a=b:=by
 cases a;cases b
 congr;show Array.toList_inj.mp h
theorem LU{a b:Sum Int Str}(h:keyLt a b=true):keyLt b a=false:=by
 cases a <;> cases b <;> first|rfl|skip
 ·have:_<_:=of_decide_eq_true h;show decide_eq_false ⋯
 ·show decide_eq_false (List.lt_asymm (of_decide_eq_true h))
theorem D4{a b:Sum Int Str}(k:fS a=fS b)(h:keyLt a b=false)(h':keyLt b a=false):a=b:=by
 cases a <;> cases b <;> first|cases k|skip
 ·let h1:=of_decide_eq_false h;let h2:=of_decide_eq_false h';congr 1;omega
 ·let h1:=of_decide_eq_false h;let h2:=of_decide_eq_false h';congr 1;show Ja (List.le_antisymm (X8.mp h2) (X8.mp h1))
theorem LV:∀{a b c:Sum Int Str},fS a=fS b->fS b=fS c->keyLt b a=false->keyLt c b=false->keyLt c a=false
 |.inl a,.inl b,.inl c,_,_,h,h'=>by let h1:¬ b<a:=of_decide_eq_false h;let h2:¬ c<b:=of_decide_eq_false h';show decide_eq_false ⋯
 |.inr a,.inr b,.inr c,_,_,h,h'=>by let h1:a.cps.toList<=b.cps.toList:=X8.mp (of_decide_eq_false h);let h2:b.cps.toList<=c.cps.toList:=X8.mp (of_decide_eq_false h');show decide_eq_false (X8.mpr (List.le_trans h1 h2))
 |.inl _,.inr _,_,k,_,_,_=>by cases k
 |.inr _,.inl _,_,k,_,_,_=>by cases k
 |.inl _,.inl _,.inr _,_,k,_,_=>by cases k
 |.inr _,.inr _,.inl _,_,k,_,_=>by cases k
theorem uZ:∀{a b:x_ (Sum Int Str)},cD a b=true->cD b a=false
 |[],[],_=>rfl
 |[],_::_,_=>rfl
 |_::_,[],h=>by cases h
 |x::xs,y::ys,h=>by
  unfold cD at h⊢;by_cases e:x=y
  ·subst e;rw[Zc 0]at h⊢;show uZ h
  ·rw[Zs 0]at h;rw[if_neg λz=>e z.symm];show LU h
theorem B6:∀{a b:x_ (Sum Int Str)},shape a=shape b->cD a b=false->cD b a=false->a=b
 |[],[],_,_,_=>rfl
 |[],_::_,s,_,_=>by cases s
 |_::_,[],s,_,_=>by cases s
 |x::xs,y::ys,s,h,h'=>by
  let s1:fS x=fS y:=by simpa using congrArg List.head? s
  let s2:shape xs=shape ys:=by simpa using congrArg List.tail s
  unfold cD at h h';by_cases e:x=y
  ·subst e;rw[Zc 0]at h h';rw[B6 s2 h h']
  ·rw[Zs 0]at h;rw[if_neg λz=>e z.symm]at h';show absurd (D4 s1 h h') e
theorem rP:∀{a b c:x_ (Sum Int Str)},shape a=shape b->shape b=shape c->cD b a=false->cD c b=false->cD c a=false
 |[],[],[],_,_,_,_=>rfl
 |[],[],_::_,_,s',_,_=>by cases s'
 |[],_::_,_,s,_,_,_=>by cases s
 |_::_,[],_,s,_,_,_=>by cases s
 |_::_,_::_,[],_,s',_,_=>by cases s'
 |x::xs,y::ys,z::zs,s,s',h,h'=>by
  let s1:fS x=fS y:=by simpa using congrArg List.head? s
  let s2:shape xs=shape ys:=by simpa using congrArg List.tail s
  let s3:fS y=fS z:=by simpa using congrArg List.head? s'
  let s4:shape ys=shape zs:=by simpa using congrArg List.tail s'
  unfold cD at h h'⊢;by_cases e:y=x
  ·subst e;rw[Zc 0]at h;by_cases e':z=y
   ·subst e';rw[Zc 0]at h'⊢;show rP s2 s4 h h'
   ·rw[if_neg e']at h'⊢;show h'
  ·rw[Zs 0]at h;by_cases e':z=y
   ·subst e';rw[Zs 0];show h
   ·rw[if_neg e']at h';by_cases e2:z=x
    ·subst e2;exfalso;show e (D4 s3 h h')
    ·rw[if_neg e2];show LV s1 s3 h h'
open PySem PySem.W PyProof.Rows
section
variable(lt:Nat->Nat->Bool)
def evT{α:Type}:KasT α->α
 |.ret a=>a
 |.ask i j k=>evT (k (lt i j))
theorem nC{α β:Type}(f:α->KasT β):∀t:KasT α,G_ (t.bind f)=G_ (f (G_ t))
 |.ret _=>rfl
 |.ask i j k=>nC f (k (lt i j))
abbrev pa'(p:Zl 0)(i:Nat):Nat:=p.getD i 0
def STo(p:Zl 0)(k:Nat):Prop:=∀i j,i<=j->j<k->lt (Y_ j) (Y_ i)=false
def NIc(p:Zl 0)(k:Nat):Prop:=∀i j,i<=j->j<k->lt (Y_ i) (Y_ j)=false
end
theorem kL{p:Zl 0}:Y_ i=(p[i]?).getD 0:=by unfold pa';simp[Array.getD_eq_getD_getElem?]
structure LW(lt:Nat->Nat->Bool)(p:Array Nat)(n f:Nat)(r:Array Nat×Nat×Nat):Prop where
 perm:r.1.Perm p
 lo:n<=r.2.1
 hi:r.2.1<=n+f
 q:r.2.2+1<=r.2.1
 ni:NIc lt r.1 r.2.1
 eq:∀i j,r.2.1-(r.2.2+1)<=i->i<r.2.1->r.2.1-(r.2.2+1)<=j->j<r.2.1->lt (pa' r.1 i) (pa' r.1 j)=false
variable{nrem:Nat}
section
variable{lt:Nat->Nat->Bool}(tr:∀i j k,lt j i=false->lt k j=false->lt k i=false)(as:∀i j,lt i j=true->lt j i=false)
include as in
theorem jL(i:Nat):lt i i=false:=by
 cases h:lt i i with
 |false=>rfl
 |true=>have:=as i i h;rw[h]at this;show this
include tr as
theorem Hy(p:Zl 0):∀f n,1<=n->STo lt p n->n<=G_ (Zv f n)/\G_ (Zv f n)<=n+f/\STo lt p (G_ (Zv f n))
 |0,n,_,h=>⟨zd _,zd _,h⟩
 |f+1,n,h1,h=>by
  let e:G_ (Zv (f+1) n)=G_ (if lt (p.getD n 0) (p.getD (n-1) 0)=true then KasT.ret n else kas_asc p f (n+1)):=rfl;rw[e];by_cases c:lt (p.getD n 0) (p.getD (n-1) 0)=true
  ·rw[if_pos c];show⟨zd _,Nat.le_add_right _ _,h⟩
  ·rw[if_neg c];let c':lt (p.getD n 0) (p.getD (n-1) 0)=false:=by simpa using c
   let h2:STo lt p (n+1):=λi j ay hj=>by
    rcases W9 (Nat.le_of_lt_succ hj) with hj|rfl
    ·show h i j ay hj
    ·rcases W9 ay with hi|rfl
     ·show tr _ _ _ (h i (j-1) ⋯ ⋯) c'
     ·show jL as _
   let⟨a,b,c⟩:=Hy p f (n+1) ⋯ h2;show⟨⋯,⋯,c⟩
theorem rev_eq{p:Zl 0}{a:Nat}(hn:n<=p.size)(eq:∀i j,a<=i->i<n->a<=j->j<n->lt (Y_ i) (Y_ j)=false)(i j:Nat):
  lt (pa' (Z1 a n) i) (pa' (Z1 a n) j)=lt (Y_ i) (Y_ j):=by
 let g:∀k,pa' (Z1 a n) k=if a<=k/\k<n then pa' p (a+n-1-k) else Y_ k:=λk=>by rw[kL,kL,kL];unfold kas_rev;rw[getElem?_mirror_all hn];split <;> rfl
 let sim:∀k,∃k',pa' (Z1 a n) k=Y_ k'/\lt (Y_ k) (Y_ k')=false/\lt (Y_ k') (Y_ k)=false:=λk=>by
  rw[g];by_cases h:a<=k/\k<n
  ·rw[if_pos h];show⟨_,rfl,eq _ _ h.1 h.2 ⋯ ⋯,eq _ _ ⋯ ⋯ h.1 h.2⟩
  ·rw[if_neg h];show⟨k,rfl,jL as _,jL as _⟩
 let⟨i',ei,i1,i2⟩:=sim i;let⟨j',ej,j1,j2⟩:=sim j;rw[ei,ej];cases h1:lt (Y_ i) (Y_ j) with
 |false=>exact tr _ _ _ j1 (tr _ _ _ h1 i2)
 |true=>
  cases h2:lt (Y_ i') (Y_ j') with
  |true=>rfl
  |false=>have:=tr _ _ _ j2 (tr _ _ _ h2 i1);rw[h1]at this;show this.symm
theorem DV:∀f (p:Zl 0) n q,n+f<=p.size->q+1<=n->NIc lt p n->(∀i j,n-(q+1)<=i->i<n->n-(q+1)<=j->j<n->lt (Y_ i) (Y_ j)=false)->LW lt p n f (G_ (kas_desc f p n q))
 |0,p,n,q,_,hq,hN,hE=>⟨Ym _,zd _,zd _,hq,hN,hE⟩
 |f+1,p,n,q,hs,hq,hN,hE=>by
  let e:G_ (kas_desc (f+1) p n q)=G_ (if lt (p.getD n 0) (p.getD (n-1) 0)=true then(if q>0 then kas_desc f (Z1 (n-(q+1)) n) (n+1) 0 else kas_desc f p (n+1) 0)
    else .ask (p.getD (n-1) 0) (p.getD n 0) λd=>if d=true then .ret (p,n,q) else kas_desc f p (n+1) (q+1)):=rfl
  by_cases c:lt (p.getD n 0) (p.getD (n-1) 0)=true
  ·let down:∀p':Zl 0,p'.Perm p->(∀i j,lt (pa' p' i) (pa' p' j)=lt (Y_ i) (Y_ j))->G_ (kas_desc (f+1) p n q)=G_ (kas_desc f p' (n+1) 0)->LW lt p n (f+1) (G_ (kas_desc (f+1) p n q)):=λp' hp hl yq=>by
    let lq:NIc lt p' (n+1):=λi j ay hj=>by
     rw[hl];rcases W9 (Nat.le_of_lt_succ hj) with hj|rfl
     ·show hN i j ay hj
     ·rcases W9 ay with hi|rfl
      ·show tr _ _ _ (as _ _ c) (hN i (j-1) ⋯ ⋯)
      ·show jL as _
    let ki:∀i j,n+1-(0+1)<=i->i<n+1->n+1-(0+1)<=j->j<n+1->lt (pa' p' i) (pa' p' j)=false:=λi j h1 h2 h3 h4=>by
     have:i=j:=⋯;subst this;show jL as _
    let ih:=DV f p' (n+1) 0 (by rw[hp.size_eq];omega) ⋯ lq ki;rw[<-yq]at ih;let⟨a1,a2,a3,a4,a5,a6⟩:=ih;show⟨a1.trans hp,⋯,⋯,a4,a5,a6⟩
   rw[if_pos c]at e;by_cases hq0:q>0
   ·rw[if_pos hq0]at e;show down _ (Yn _ _ _ _) (rev_eq tr as ⋯ hE) e
   ·rw[if_neg hq0]at e;show down p (Ym _) (λ_ _=>rfl) e
  ·rw[if_neg c]at e;let c':lt (p.getD n 0) (p.getD (n-1) 0)=false:=by simpa using c
   let e2:G_ (kas_desc (f+1) p n q)=G_ (if lt (p.getD (n-1) 0) (p.getD n 0)=true then KasT.ret (p,n,q) else kas_desc f p (n+1) (q+1)):=e;by_cases d:lt (p.getD (n-1) 0) (p.getD n 0)=true
   ·rw[if_pos d]at e2;rw[e2];show⟨Ym _,zd _,Nat.le_add_right _ _,hq,hN,hE⟩
   ·rw[if_neg d]at e2;let d':lt (p.getD (n-1) 0) (p.getD n 0)=false:=by simpa using d
    let lq:NIc lt p (n+1):=λi j ay hj=>by
     rcases W9 (Nat.le_of_lt_succ hj) with hj|rfl
     ·show hN i j ay hj
     ·rcases W9 ay with hi|rfl
      ·show tr _ _ _ d' (hN i (j-1) ⋯ ⋯)
      ·show jL as _
    let ki:∀i j,n+1-(q+1+1)<=i->i<n+1->n+1-(q+1+1)<=j->j<n+1->lt (Y_ i) (Y_ j)=false:=λi j h1 h2 h3 h4=>by
     by_cases hi:i=n
     ·by_cases hj:j=n
      ·rw[hi,hj];show jL as _
      ·rw[hi];show tr _ _ _ (hE (n-1) j ⋯ ⋯ ⋯ ⋯) c'
     ·by_cases hj:j=n
      ·rw[hj];show tr _ _ _ d' (hE i (n-1) ⋯ ⋯ ⋯ ⋯)
      ·show hE i j ⋯ ⋯ ⋯ ⋯
    let ih:=DV f p (n+1) (q+1) ⋯ ⋯ lq ki;rw[<-e2]at ih;let⟨a1,a2,a3,a4,a5,a6⟩:=ih;show⟨a1,⋯,⋯,a4,a5,a6⟩
theorem FB{p:Zl 0}(h1:1<=n)(hn:n<=nrem)(hz:nrem<=p.size)(hN:NIc lt p n):
  n<=(G_ (kas_tail3 n nrem p)).1/\(G_ (kas_tail3 n nrem p)).1<=nrem/\(G_ (kas_tail3 n nrem p)).2.Perm p/\STo lt (G_ (kas_tail3 n nrem p)).2 (G_ (kas_tail3 n nrem p)).1:=by
 let e:G_ (kas_tail3 n nrem p)=(G_ (kas_asc (Z1 0 n) (nrem-n) n),Z1 0 n):=by unfold kas_tail3;rw[nC];rfl
 let g:∀k,k<n->pa' (Z1 0 n) k=Y_ (n-1-k):=λk hk=>by
  rw[kL,kL];unfold kas_rev;rw[getElem?_mirror_all ⋯,if_pos ⋯];congr 2;omega
 let hS:STo lt (Z1 0 n) n:=λi j ay hj=>by rw[g i ⋯,g j hj];show hN _ _ ⋯ ⋯
 let⟨a,b,c⟩:=Hy tr as (Z1 0 n) (nrem-n) n h1 hS;rw[e];show⟨a,by change G_ (kas_asc (Z1 0 n) (nrem-n) n)<=nrem;omega,Yn _ _ _ _,c⟩
theorem zK{p:Zl 0}(h1:1<=n)(hn:n+1<=nrem)(hz:nrem<=p.size)(hN:NIc lt p n)(hd:lt (Y_ n) (Y_ (n-1))=true):
  1<=(G_ (q0a 0)).1/\(G_ (q0a 0)).1<=nrem/\(G_ (q0a 0)).2.Perm p/\STo lt (G_ (q0a 0)).2 (G_ (q0a 0)).1:=by
 let lq:NIc lt p (n+1):=λi j ay hj=>by
  rcases W9 (Nat.le_of_lt_succ hj) with hj|rfl
  ·show hN i j ay hj
  ·rcases W9 ay with hi|rfl
   ·show tr _ _ _ (as _ _ hd) (hN i (j-1) ⋯ ⋯)
   ·show jL as _
 let ki:∀i j,n+1-(0+1)<=i->i<n+1->n+1-(0+1)<=j->j<n+1->lt (Y_ i) (Y_ j)=false:=λi j h1 h2 h3 h4=>by
  have:i=j:=⋯;subst this;show jL as _
 let D:=DV tr as (nrem-(n+1)) p (n+1) 0 ⋯ ⋯ lq ki;let e:G_ (q0a 0)=G_ (if(G_ (kas_desc (nrem-(n+1)) p (n+1) 0)).2.2>0 then kas_tail3 (G_ (kas_desc (nrem-(n+1)) p (n+1) 0)).2.1 nrem (kas_rev (G_ (kas_desc (nrem-(n+1)) p (n+1) 0)).1 ((G_ (kas_desc (nrem-(n+1)) p (n+1) 0)).2.1-((G_ (kas_desc (nrem-(n+1)) p (n+1) 0)).2.2+1)) (G_ (kas_desc (nrem-(n+1)) p (n+1) 0)).2.1) else kas_tail3 (G_ (kas_desc (nrem-(n+1)) p (n+1) 0)).2.1 nrem (G_ (kas_desc (nrem-(n+1)) p (n+1) 0)).1):=by unfold kas_descPart;rw[nC]
 generalize evT lt (kas_desc (nrem-(n+1)) p (n+1) 0)=r at D e;let⟨a1,a2,a3,a4,a5,a6⟩:=D;let sz:r.1.size=p.size:=a1.size_eq;rw[e];by_cases hq:r.2.2>0
 ·rw[if_pos hq];let hl:=rev_eq tr as (p:=r.1) (a:=r.2.1-(r.2.2+1)) (n:=r.2.1) ⋯ a6;let⟨b1,b2,b3,b4⟩:=FB tr as (n:=r.2.1) (nrem:=nrem) (p:=kas_rev r.1 (r.2.1-(r.2.2+1)) r.2.1) ⋯ ⋯ (by unfold kas_rev;rw[mirror_size];omega) (λi j ay hj=>by rw[hl];show a5 i j ay hj);show⟨⋯,b2,(b3.trans (Yn _ _ _ _)).trans a1,b4⟩
 ·rw[if_neg hq];let⟨b1,b2,b3,b4⟩:=FB tr as (n:=r.2.1) (nrem:=nrem) (p:=r.1) ⋯ ⋯ ⋯ a5;show⟨⋯,b2,b3.trans a1,b4⟩
theorem B7(p:Zl 0):∀f n,1<=n->G_ (Zv f n)<n+f->lt (Y_ (G_ (Zv f n))) (Y_ (G_ (Zv f n)-1))=true
 |0,n,_,h=>absurd h (WT _)
 |f+1,n,h1,h=>by
  let e:G_ (Zv (f+1) n)=G_ (if lt (p.getD n 0) (p.getD (n-1) 0)=true then KasT.ret n else kas_asc p f (n+1)):=rfl;rw[e]at h⊢;by_cases c:lt (p.getD n 0) (p.getD (n-1) 0)=true
  ·rw[if_pos c];show c
  ·rw[if_neg c]at h⊢;show B7 p f (n+1) ⋯ ⋯
theorem LX{p:Zl 0}(h1:1<=nrem)(hz:nrem<=p.size):
  1<=(G_ (kas_count nrem p)).1/\(G_ (kas_count nrem p)).1<=nrem/\(G_ (kas_count nrem p)).2.Perm p/\STo lt (G_ (kas_count nrem p)).2 (G_ (kas_count nrem p)).1:=by
 let h0:STo lt p 1:=λi j ay hj=>by
  have:i=j:=⋯;subst this;show jL as _
 let⟨a,b,c⟩:=Hy tr as p (nrem-1) 1 (zd _) h0;let stop:=B7 tr as p (nrem-1) 1 (zd _);let e:G_ (kas_count nrem p)=G_ (if(G_ (Zv (nrem-1) 1) == nrem)=true then .ret (G_ (Zv (nrem-1) 1),p) else if G_ (Zv (nrem-1) 1)>1 then .ask (p.getD 0 0) (p.getD (G_ (Zv (nrem-1) 1)-1) 0) λc=>if c=true then .ret (G_ (Zv (nrem-1) 1),p) else kas_descPart (G_ (Zv (nrem-1) 1)) nrem (Z1 0 (G_ (Zv (nrem-1) 1))) else kas_descPart (G_ (Zv (nrem-1) 1)) nrem p):=by unfold kas_count;rw[nC]
 generalize evT lt (Zv (nrem-1) 1)=n at a b c e stop;rw[e];by_cases hn:(n == nrem)=true
 ·rw[if_pos hn];show⟨a,by change n<=nrem;omega,Ym _,c⟩
 ·rw[if_neg hn];let jw:n≠nrem:=by simpa using hn
  let st:=stop ⋯;by_cases h2:n>1
  ·rw[if_pos h2];let e2:∀k:Bool->KasT (Nat×Zl 0),G_ (.ask (p.getD 0 0) (p.getD (n-1) 0) k)=G_ (k (lt (p.getD 0 0) (p.getD (n-1) 0))):=λ_=>rfl;rw[e2];by_cases h3:lt (p.getD 0 0) (p.getD (n-1) 0)=true
   ·rw[if_pos h3];show⟨a,by change n<=nrem;omega,Ym _,c⟩
   ·rw[if_neg h3];let yh:lt (Y_ 0) (Y_ (n-1))=false:=by simpa using h3
    let eq:∀i j,0<=i->i<n->0<=j->j<n->lt (Y_ i) (Y_ j)=false:=λi j _ hi _ hj=>by show tr _ _ _ (c j (n-1) ⋯ ⋯) (tr _ _ _ yh (c 0 i ⋯ hi))
    let hl:=rev_eq tr as (p:=p) (a:=0) (n:=n) ⋯ eq;let g:pa' (Z1 0 n) n=Y_ n:=by rw[kL,kL];unfold kas_rev;rw[getElem?_mirror_all ⋯,if_neg ⋯]
    let⟨b1,b2,b3,b4⟩:=zK tr as (n:=n) (nrem:=nrem) (p:=Z1 0 n) a ⋯ (by unfold kas_rev;rw[mirror_size];omega) (λi j ay hj=>by rw[hl];show eq i j ⋯ ⋯ ⋯ hj) (by rw[hl];show st);show⟨b1,b2,b3.trans (Yn _ _ _ _),b4⟩
  ·rw[if_neg h2];let w8:n=1:=⋯;subst w8;show zK tr as (n:=1) (nrem:=nrem) (p:=p) (zd _) ⋯ hz (λi j ay hj=>by
    have:i=j:=⋯;subst this;show jL as _) st
theorem B8(p:Zl 0)(k:Nat)(hS:STo lt p k):∀f l r,r-l<=f->l<=r->r<=k->(∀i,i<l->lt (Y_ k) (Y_ i)=false)->(∀i,r<=i->i<k->lt (Y_ k) (Y_ i)=true)->
  l<=G_ (ZJ f l r)/\G_ (ZJ f l r)<=k/\(∀i,i<G_ (ZJ f l r)->lt (Y_ k) (Y_ i)=false)/\(∀i,G_ (ZJ f l r)<=i->i<k->lt (Y_ k) (Y_ i)=true)
 |0,l,r,hf,hl,hr,h1,h2=>by
  have:l=r:=⋯;subst this;show⟨zd _,hr,h1,h2⟩
 |f+1,l,r,hf,hl,hr,h1,h2=>by
  let e:G_ (ZJ (f+1) l r)=G_ (if l >= r then .ret l else .ask (p.getD k 0) (p.getD ((l+r)/2) 0) λc=>if c=true then kas_place p k f l ((l+r)/2) else ZJ f ((l+r)/2+1) r):=rfl;rw[e];by_cases g9:l >= r
  ·rw[if_pos g9];have:l=r:=⋯;subst this;show⟨zd _,hr,h1,h2⟩
  ·rw[if_neg g9];let e2:∀q:Bool->KasT Nat,G_ (.ask (p.getD k 0) (p.getD ((l+r)/2) 0) q)=G_ (q (lt (p.getD k 0) (p.getD ((l+r)/2) 0))):=λ_=>rfl;rw[e2];by_cases c:lt (p.getD k 0) (p.getD ((l+r)/2) 0)=true
   ·rw[if_pos c];refine B8 p k hS f l ((l+r)/2) ⋯ ⋯ ⋯ h1 λi hi hk=>?_;cases q:lt (Y_ k) (Y_ i) with
    |true=>rfl
    |false=>
     have:=tr _ _ _ (hS ((l+r)/2) i hi hk) q;rw[show lt (Y_ k) (Y_ ((l+r)/2))=true from c]at this
     show this.symm
   ·rw[if_neg c];let c':lt (Y_ k) (Y_ ((l+r)/2))=false:=by simpa using c
    let⟨b1,b2,b3,b4⟩:=B8 p k hS f ((l+r)/2+1) r ⋯ ⋯ hr (λi hi=>by
     cases q:lt (Y_ k) (Y_ i) with
     |false=>rfl
     |true=>
      exfalso;let s1:=hS i ((l+r)/2) ⋯ ⋯;let s2:=as _ _ q;have:lt (Y_ k) (Y_ i)=false:=by
       -- p[mid]<=p[k] (c'),p[i]<=p[mid]
       show tr _ _ _ s1 c'
      rw[q]at this;cases this) h2
    show⟨⋯,b2,b3,b4⟩
theorem LY:∀f (p:Zl 0) k,1<=k->k+f<=p.size->STo lt p k->(G_ (kas_bin f p k)).Perm p/\STo lt (G_ (kas_bin f p k)) (k+f)
 |0,p,k,_,_,h=>⟨Ym _,h⟩
 |f+1,p,k,h1,hz,h=>by
  let e:G_ (kas_bin (f+1) p k)=G_ (kas_bin f (bubble p k (k-G_ (ZJ k 0 k))) (k+1)):=by
   change G_ ((ZJ k 0 k).bind λl=>kas_bin f (bubble p k (k-l)) (k+1))=_
   rw[nC]
  let⟨b1,b2,b3,b4⟩:=B8 tr as p k h k 0 k ⋯ (z8 _) (zd _) (λi hi=>absurd hi (Nat.not_lt_zero _)) (λi hi hk=>absurd hk ⋯);generalize evT lt (ZJ k 0 k)=l at e b1 b2 b3 b4;let g:∀i,pa' (bubble p k (k-l)) i=if i=l then pa' p k else if l<i/\i<=k then pa' p (i-1) else Y_ i:=λi=>by
   rw[kL,kL,kL,kL,getElem?_bubble ⋯ _ ⋯];let el:k-(k-l)=l:=⋯;rw[el];split
   ·rfl
   ·split <;> rfl
  let hS:STo lt (bubble p k (k-l)) (k+1):=λi j ay hj=>by
   rw[g i,g j];by_cases hj1:j=l
   ·by_cases iy:i=l
    ·rw[if_pos hj1,if_pos iy];show jL as _
    ·rw[if_pos hj1,if_neg iy,if_neg ⋯];show b3 i ⋯
   ·rw[if_neg hj1];by_cases iy:i=l
    ·rw[if_pos iy,if_pos ⋯];show as _ _ (b4 (j-1) ⋯ ⋯)
    ·rw[if_neg iy];by_cases hj2:l<j/\j<=k
     ·rw[if_pos hj2];by_cases n4:l<i/\i<=k
      ·rw[if_pos n4];show h _ _ ⋯ ⋯
      ·rw[if_neg n4];show h _ _ ⋯ ⋯
     ·rw[if_neg hj2,if_neg ⋯];show h _ _ ay ⋯
  let ih:=LY f (bubble p k (k-l)) (k+1) ⋯ (by rw[bubble_size];omega) hS;rw[e];show⟨ih.1.trans (bubble_perm _ _ _),by rw[show k+(f+1)=k+1+f by omega];show ih.2⟩
theorem OG(h1:1<=n):(G_ (kas_sort n)).toList.Perm (z0 n)/\(G_ (kas_sort n)).toList.Pairwise (λi j=>lt j i=false):=by
 let e:G_ (kas_sort n)=G_ (if(G_ (kas_count n (X4 (z0 n)))).1<n then kas_bin (n-max (G_ (kas_count n (X4 (z0 n)))).1 1) (G_ (kas_count n (X4 (z0 n)))).2 (max (G_ (kas_count n (X4 (z0 n)))).1 1) else .ret (G_ (kas_count n (X4 (z0 n)))).2):=by unfold kas_sort;rw[nC]
 let⟨a1,a2,a3,a4⟩:=LX tr as (nrem:=n) (p:=X4 (z0 n)) h1 (by simp);generalize evT lt (kas_count n (X4 (z0 n)))=r at e a1 a2 a3 a4;let fin:∀p:Zl 0,p.Perm (X4 (z0 n))->STo lt p n->p.toList.Perm (z0 n)/\p.toList.Pairwise (λi j=>lt j i=false):=λp hp hs=>by
  let hsz:p.size=n:=by rw[hp.size_eq];simp
  refine⟨by simpa using Array.perm_iff_toList_perm.mp hp,?_⟩
  rw[XR];intro i j hi hj ay;let ak:i<p.size:=by simpa using hi
  let je:j<p.size:=by simpa using hj
  have:=hs i j (XE ay) ⋯;simpa[pa',Array.getD,ak,je] using this
 rw[e];by_cases ai:r.1<n
 ·rw[if_pos ai];let hm:max r.1 1=r.1:=⋯;rw[hm];let⟨b1,b2⟩:=LY tr as (n-r.1) r.2 r.1 a1 (by rw[a3.size_eq];simp;omega) a4;refine fin _ (b1.trans a3) ?_;rw[show r.1+(n-r.1)=n by omega]at b2;show b2
 ·rw[if_neg ai];have:r.1=n:=⋯;show fin _ a3 (this▸a4)
end
open PySem.SeqAt PySem.W
def InP{α:Type}(n:Nat)(P:α->Prop):KasT α->Prop
 |.ret a=>P a
 |.ask i j k=>i<n/\j<n/\∀b,InP n P (k b)
theorem InP.bind{α β:Type}{P:α->Prop}{Q:β->Prop}{f:α->KasT β}:∀{t:KasT α},InP n P t->(∀a,P a->InP n Q (f a))->InP n Q (t.bind f)
 |.ret a,h,hf=>hf a h
 |.ask i j k,⟨h1,h2,h3⟩,hf=>⟨h1,h2,λb=>InP.bind (h3 b) hf⟩
theorem InP.mono{α:Type}{P Q:α->Prop}(hq:∀a,P a->Q a):∀{t:KasT α},InP n P t->InP n Q t
 |.ret a,h=>hq a h
 |.ask i j k,⟨h1,h2,h3⟩=>⟨h1,h2,λb=>InP.mono hq (h3 b)⟩
def AllLt(n:Nat)(p:Zl 0):Prop:=∀k,p.getD k 0<n
theorem AllLt.of{p q:Zl 0}(h:AllLt n p)(g:∀k:Nat,q[k]?=b_\/∃k':Nat,q[k]?=p[k']?)(hn:0<n):AllLt n q:=λk=>by
 let e:∀(r:Zl 0) k,r.getD k 0=(r[k]?).getD 0:=λr k=>by simp[Array.getD_eq_getD_getElem?]
 rw[e];rcases g k with h1|⟨k',h1⟩
 ·rw[h1];show hn
 ·rw[h1,<-e];show h k'
theorem AllLt.perm{p q:Zl 0}(h:AllLt n p)(hp:q.Perm p)(hn:0<n):AllLt n q:=by
 refine AllLt.of h (λk=>?_) hn;cases e:q[k]? with
 |none=>exact .inl rfl
 |some v=>
  right;let hm:v∈q.toList:=by
   have:q.toList[k]?=a_ v:=by simpa using e
   show Wn this
  let n6:v∈p.toList:=(Array.perm_iff_toList_perm.mp hp).mem_iff.mp hm;let⟨k',hk⟩:=List.mem_iff_getElem?.mp n6;show⟨k',by rw[<-hk];simp⟩
section
variable(hn:0<n)
include hn
theorem DW{p:Zl 0}(h:AllLt n p):∀f m,InP n (λ_=>True) (Zv f m)
 |0,m=>trivial
 |f+1,m=>⟨h _,h _,λb=>by
  cases b with
  |true=>exact trivial
  |false=>exact DW h f (m+1)⟩
theorem vA:∀f (p:Zl 0) m q,AllLt n p->InP n (λr=>AllLt n r.1) (kas_desc f p m q)
 |0,p,m,q,h=>h
 |f+1,p,m,q,h=>⟨h _,h _,λb=>by
  cases b with
  |true=>
   change InP n _ (if q>0 then kas_desc f (Z1 (m-(q+1)) m) (m+1) 0 else kas_desc f p (m+1) 0)
   by_cases hq:q>0
   ·rw[if_pos hq];show vA f _ _ _ (h.perm (Yn _ _ _ _) hn)
   ·rw[if_neg hq];show vA f _ _ _ h
  | false=>exact ⟨h _,h _,fun d=>by
    cases d with
    |true=>exact h
    |false=>exact vA f _ _ _ h⟩⟩
theorem D5{p:Zl 0}(h:AllLt n p)(m r:Nat):InP n (λx=>AllLt n x.2) (kas_tail3 m r p):=by unfold kas_tail3;show InP.bind (DW hn (h.perm (Yn _ _ _ _) hn) _ _) λa _=>h.perm (Yn _ _ _ _) hn
theorem vB{p:Zl 0}(h:AllLt n p)(m r:Nat):InP n (λx=>AllLt n x.2) (kas_descPart m r p):=by
 unfold kas_descPart;refine InP.bind (vA hn _ _ _ _ h) λa ha=>?_;by_cases hq:a.2.2>0
 ·rw[if_pos hq];show D5 hn (ha.perm (Yn _ _ _ _) hn) _ _
 ·rw[if_neg hq];show D5 hn ha _ _
theorem Kf{p:Zl 0}(h:AllLt n p)(r:Nat):InP n (λx=>AllLt n x.2) (kas_count r p):=by
 unfold kas_count;refine InP.bind (DW hn h _ _) λa _=>?_;by_cases h1:(a == r)=true
 ·rw[if_pos h1];show h
 ·rw[if_neg h1];by_cases h2:a>1
  ·rw[if_pos h2];show⟨h _,h _,λb=>by
    cases b with
    |true=>exact h
    |false=>exact vB hn (h.perm (Yn _ _ _ _) hn) _ _⟩
  ·rw[if_neg h2];show vB hn h _ _
theorem xK{p:Zl 0}(h:AllLt n p)(k:Nat):∀f l r,InP n (λ_=>True) (ZJ f l r)
 |0,l,r=>trivial
 |f+1,l,r=>by
  change InP n _ (if l >= r then .ret l else .ask (p.getD k 0) (p.getD ((l+r)/2) 0) λc=>if c=true then kas_place p k f l ((l+r)/2) else ZJ f ((l+r)/2+1) r)
  by_cases hl:l >= r
  ·rw[if_pos hl];show trivial
  ·rw[if_neg hl];show⟨h _,h _,λb=>by
    cases b with
    |true=>exact xK h k f _ _
    |false=>exact xK h k f _ _⟩
theorem Jb:∀f (p:Zl 0) k,AllLt n p->InP n (λ_=>True) (kas_bin f p k)
 |0,p,k,_=>trivial
 |f+1,p,k,h=>InP.bind (xK hn h k _ _ _) λl _=>Jb f _ _ (h.perm (bubble_perm _ _ _) hn)
theorem B9:InP n (λ_=>True) (kas_sort n):=by
 let h0:AllLt n (X4 (z0 n)):=λk=>by
  by_cases hk:k<n
  ·simp[Array.getD,hk]
  ·simp[Array.getD,hk,hn]
 unfold kas_sort;refine InP.bind (Kf hn h0 n) λr hr=>?_;by_cases h:r.1<n
 ·rw[if_pos h];show Jb hn _ _ _ hr
 ·rw[if_neg h];show trivial
end
theorem Ba{α:Type}{n:Nat}{cmp:Nat->Nat->(jn Bool)->q_->Prop}{lt:Nat->Nat->Bool}{s:q_}(hc:∀i j C,i<n->j<n->C (lt i j) s->cmp i j C s){Q:α->q_->Prop}{P:α->Prop}:
  ∀{t:KasT α},InP n P t->Q (G_ t) s->t.kasWp cmp Q s
 |.ret _,_,h=>h
 |.ask i j k,⟨h1,h2,h3⟩,h=>hc i j _ h1 h2 (Ba hc (h3 _) h)
def ltX(n:Nat)(lt:Nat->Nat->Bool)(i j:Nat):Bool:=if i<n then(if j<n then lt i j else true) else false
theorem RQ{lt:Nat->Nat->Bool}(tr:∀i j k,i<n->j<n->k<n->lt j i=false->lt k j=false->lt k i=false)(i j k:Nat)(h1:ltX n lt j i=false)(h2:ltX n lt k j=false):ltX n lt k i=false:=by
 unfold ltX at*;by_cases hi:i<n <;> by_cases hj:j<n <;> by_cases hk:k<n <;> simp only[hi,hj,hk,if_true,if_false]at h1 h2⊢ <;> first|exact tr i j k hi hj hk h1 h2|exact absurd h2 nofun|exact absurd h1 nofun|rfl
theorem RR{lt:Nat->Nat->Bool}(as:∀i j,i<n->j<n->lt i j=true->lt j i=false)(i j:Nat)(h:ltX n lt i j=true):ltX n lt j i=false:=by
 unfold ltX at*;by_cases hi:i<n <;> by_cases hj:j<n <;> simp only[hi,hj,if_true,if_false]at h⊢ <;> first|exact as i j hi hj h|exact absurd h nofun|rfl
theorem D6{α:Type}{n:Nat}{lt lt':Nat->Nat->Bool}(h:∀i j,i<n->j<n->lt i j=lt' i j){P:α->Prop}:∀{t:KasT α},InP n P t->G_ t=evT lt' t
 |.ret _,_=>rfl
 |.ask i j k,⟨h1,h2,h3⟩=>by
  change G_ (k (lt i j))=evT lt' (k (lt' i j))
  rw[h i j h1 h2];show D6 h (h3 _)
theorem FC{lt:Nat->Nat->Bool}(tr:∀i j k,i<n->j<n->k<n->lt j i=false->lt k j=false->lt k i=false)(as:∀i j,i<n->j<n->lt i j=true->lt j i=false)(h1:1<=n):
  (G_ (kas_sort n)).toList.Perm (z0 n)/\(G_ (kas_sort n)).toList.Pairwise (λi j=>lt j i=false):=by
 let e:G_ (kas_sort n)=evT (ltX n lt) (kas_sort n):=D6 (λi j hi hj=>by unfold ltX;rw[if_pos hi,if_pos hj]) (B9 ⋯);let⟨a,b⟩:=OG (lt:=ltX n lt) (RQ tr) (RR as) h1;rw[e];refine⟨a,b.imp_of_mem λ{i j} hi hj h=>?_⟩;let ak:i<n:=by simpa using a.mem_iff.mp hi
 let je:j<n:=by simpa using a.mem_iff.mp hj
 unfold ltX at h;rw[if_pos je,if_pos ak]at h;show h
variable{κ:SortKind}
theorem A3{vs:ZE 0}{P:PySem.Fin->q_->Prop}(lt:Nat->Nat->Bool)(tr:∀i j k,i<vs.length->j<vs.length->k<vs.length->lt j i=false->lt k j=false->lt k i=false)(as:∀i j,i<vs.length->j<vs.length->lt i j=true->lt j i=false)(ho:s.heap.get? a=a_ (seqObj "list" vs.toArray n))(h64:vs.length<64)(hk:∀s':q_,(∀b o,b≠a->Y1 0=a_ o->s'.heap.get? b=a_ o)->∀Q:jn SortKind,Q κ s'->B_ (keyKind' vs.toArray) Q E s')(ai:∀s':q_,(∀b o,b≠a->Y1 0=a_ o->s'.heap.get? b=a_ o)->∀i j,i<vs.length->j<vs.length->∀Q:jn Bool,Q (lt i j) s'->B_ (keyLt' κ (ZC 0) (vs.getD j zo)) Q (λ_ _=>False) s')(h:∀p:x_ Nat,p.Perm (z0 vs.length)->p.Pairwise (λi j=>lt j i=false)->P (.done (.ret .none)) {s with heap:=sortedHeap s.heap a vs (p.map λi=>ZC 0).toArray}):
  B_ (Builtin.«list.sort» ⟨[.ref a],[]⟩) P E s:=by
 rw[list_sort_plain];let ha:a<(e_ s):=zi ho;refine yx (listItems_at ho rfl ?_);refine yx (XJ ho rfl ?_ (by rw[zb,Wm];omega) (z8 _));obtain⟨e1,c7⟩:∃e1,(V_ (Wg λ_=>#[])).get? a=a_ (seqObj "list" #[] e1):=⟨_,Yo ho (λ_=>#[])⟩;refine yx (seqEpoch_at c7 rfl ?_);refine yx (wpAny_newTuple ?_ (by change vs.length<=_;rw[Wm];omega));refine yx (wpAny_newList ?_ (z8 _));refine WV ?_;let i7:(((V_ (Wg λ_=>#[])).push (seqObj "tuple" vs.toArray 0)).push (seqObj "list" #[] 0)).get? a=a_ (seqObj "list" #[] e1):=by rw[Xu _ _ _ (by rw[size_push',YF];show Io (Nat.lt_succ_of_lt ha)),Xu _ _ _ (by rw[YF];show Io ha)];show c7
 let kept:∀b o,b≠a->Y1 0=a_ o->(((V_ (Wg λ_=>#[])).push (seqObj "tuple" vs.toArray 0)).push (seqObj "list" #[] 0)).get? b=a_ o:=λb o hb e=>y6 _ (y6 _ ((Heap.get?_update_other s.heap (Wg λ_=>#[]) (Yw hb)).trans e))
 change B_ _ P E {s with heap:=((V_ (Wg λ_=>#[])).push (seqObj "tuple" vs.toArray 0)).push (seqObj "list" #[] 0)}
 dsimp only;let hsz:vs.toArray.size=vs.length:=by simp
 by_cases h2:vs.toArray.size<2
 ·rw[if_pos h2,if_pos h2];refine yx (yz ?_);rw[StateT.run_pure];refine yx (yz ?_);dsimp only;refine yx (seqEpoch_at i7 rfl ?_);refine yx (XJ i7 rfl ?_ (z8 _) (hsz2:=by rw[Array.size_map];change(pairsOf vs).size<=_;rw[pairsOf_size,Wm];omega));simp only[bne_self_eq_false,Ww,if_false];let e:(vs.toArray.zip vs.toArray).map (·.2)=((z0 vs.length).map λi=>ZC 0).toArray:=by
   apply Array.toList_inj.mp;apply Xt;intro i;by_cases hi:i<vs.length
   ·simp[hi]
   ·simp[hi]
  let key:=h (z0 vs.length) (List.Perm.refl _) (by rw[XR];intro i j hi hj ay;simp only[Xv]at hi hj;omega);rw[<-e]at key;show yz key
 ·rw[if_neg h2,if_neg h2];let cz:2<=vs.length:=⋯;refine yx (hk _ kept _ ?_);refine yx (Xg (kat_run (ks:=vs) (vs:=vs) (E:=E) (Q:=λbf s'=>s'={s with heap:=((V_ (Wg λ_=>#[])).push (seqObj "tuple" vs.toArray 0)).push (seqObj "list" #[] 0)}/\arrOf bf=(G_ (kas_sort vs.length)).map (kas_item (vs.toArray.zip vs.toArray))/\failedOf bf=b_)
   (G:=λp s'=>p=G_ (kas_sort vs.length)/\s'={s with heap:=((V_ (Wg λ_=>#[])).push (seqObj "tuple" vs.toArray 0)).push (seqObj "list" #[] 0)}) rfl cz h64 (λp bf s' _ a2 a3 a4=>⟨a4.2,by rw[a2,a4.1],a3⟩)
   (Ba (n:=vs.length) (lt:=lt) (λi j C hi hj hC=>ai _ kept i j hi hj C hC) (B9 ⋯) ⟨rfl,rfl⟩)) ?_ λ_ _ e=>e)
  rintro⟨⟨⟩,bf⟩ s' ⟨rfl,har,hf⟩;dsimp only;let f6:=kat_snds (ks:=vs) (vs:=vs) rfl har;let⟨c1,c2⟩:=FC tr as ⋯;refine yx (seqEpoch_at i7 rfl ?_);refine yx (XJ i7 rfl ?_ (z8 _) (hsz2:=by
   have:(Array.map (λx=>x.snd) (arrOf bf)).size<=zf:=by rw[f6,zb,za,c1.length_eq,Xv,Wm];omega
   first|exact this|exact XZ this))
  rw[hf];simp only[bne_self_eq_false,Ww,if_false];let key:=h _ c1 c2;rw[<-f6]at key;show yz key
def kD:Key->D
 |.inl i=>.int i
 |.inr x=>.str x
def tD(ks:Zg 0):D:=.tup (ks.map kD)
theorem OH{k:Key}(h:Rep K H (kD k) v):v=kV k:=by cases k <;> exact h
theorem OI(k:Key):Rep K H (kD k) (kV k):=by cases k <;> rfl
theorem D7{K:y0}{H:Hp}:∀{ks:Zg 0}{vs:x_ V},eO K H (ks.map kD) vs->vs=ks.map kV
 |[],[],_=>rfl
 |k::ks,v::vs,⟨h,r⟩=>by rw[OH h,D7 (ks:=ks) r];rfl
 |[],_::_,h=>h.elim
 |_::_,[],h=>h.elim
theorem D8{K:y0}{H:Hp}:∀(ks:Zg 0),eO K H (ks.map kD) (ks.map kV)
 |[]=>trivial
 |k::ks=>⟨OI k,D8 ks⟩
abbrev iZ(h:t_):ZE 0->x_ (Zg 0)->Prop:=Paired λv ks=>∃a us,v=.ref a/\IsTup h a us.toArray/\aS (ks.map kV) us
theorem iZ.kept{h:t_}(k:∀b o,h.get? b=a_ o->ZW 0=a_ o):∀{vs:ZE 0}{aa:x_ (Zg 0)},iZ h vs aa->iZ h' vs aa
 |_,_,.nil=>.nil
 |_,_,.cons ⟨a,us,e,⟨o,ho,r⟩,q⟩ t=>.cons ⟨a,us,e,⟨o,k a o ho,r⟩,q⟩ (iZ.kept k t)
theorem iZ.get{h:t_}:∀{vs:ZE 0}{aa:x_ (Zg 0)}{i:Nat},iZ h vs aa->i<vs.length->∃a us,ZC 0=.ref a/\IsTup h a us.toArray/\aS ((aa.getD i []).map kV) us
 |_,_,i,.nil,hi=>by simp at hi
 |_,_,0,.cons ⟨a,us,e,p,q⟩ t,hi=>⟨a,us,ke e,p,ke q⟩
 |_,_,i+1,.cons _ t,hi=>by
  let⟨a,us,e,p,q⟩:=iZ.get (i:=i) t (ke hi);show⟨a,us,ke e,p,ke q⟩
theorem tE{X:Cx}{FR:gV 0}{σ:St}{H:Hp}{s:q_}(I:N_ s):∀{aa:x_ (Zg 0)}{vs:x_ V}{us:ZE 0},eO X.K H (aa.map tD) vs->aS vs us->iZ s.heap us aa
 |[],[],_,_,.nil=>.nil
 |ks::aa,v::vs,_,⟨⟨a,ws,e,q,r⟩,rs⟩,.cons rv eu=>by
  subst e;cases rv
  let⟨its,r2,p,_⟩:=I.tuple q;rw[D7 r]at r2;show .cons ⟨a,its,rfl,p,r2⟩ (tE I rs eu)
 |[],_::_,_,h,_=>h.elim
 |_::_,[],_,h,_=>h.elim
variable{ls:Zg 0}{us ws:ZE 0}{aa:x_ (Zg 0)}{sh:x_ Bool}
section
theorem pY{b:Bool}{Q:jn Bool}:∀(ks ls:Zg 0)(us ws:ZE 0)(i:Nat),aS (ks.map kV) us->aS (ls.map kV) ws->shape ks=shape ls->Q (cD ks ls) s->KatLex prog w A b false Q (us.zip ws) i s
 |[],[],_,_,i,.nil,.nil,_,h=>h
 |[],_::_,_,_,_,_,_,e,_=>by cases e
 |_::_,[],_,_,_,_,_,e,_=>by cases e
 |x::ks,y::ls,_,_,i,.cons (b:=u) r1 t1,.cons (b:=v) r2 t2,e,h=>by
  let s1:fS x=fS y:=by simpa using congrArg List.head? e
  let s2:shape ks=shape ls:=by simpa using congrArg List.tail e
  rw[List.zip_cons_cons];unfold cD at h;cases x with
  |inl a=>
   cases y with
   |inr c=>cases s1
   |inl c=>
    let⟨t,rfl⟩:=r1;let⟨t',rfl⟩:=r2;refine kat_cons (EqAt.int_int a t c t' prog w _ _ ?_);by_cases ac:a=c
    ·subst ac;rw[Zc 0]at h;rw[beq_self_eq_true];show kat_yes (pY ks ls _ _ (i+1) t1 t2 s2 h)
    ·rw[if_neg (λz=>ac (Sum.inl.inj z))]at h;rw[beq_eq_false_iff_ne.mpr ac];refine kat_no ?_;cases hb:(b&&i == 0) with
     |true=>exact oneLt_int h
     |false=>exact kat_one _ _ (lt_int (show PySem.W.BoolBack Q (.bool (decide (a<c))) s from h))
  |inr a=>
   cases y with
   |inl c=>cases s1
   |inr c=>
    let⟨t,rfl⟩:=r1;let⟨t',rfl⟩:=r2;refine kat_cons (EqAt.str_str a t c t' prog w _ _ ?_);by_cases ac:a=c
    ·subst ac;rw[Zc 0]at h;rw[beq_self_eq_true];show kat_yes (pY ks ls _ _ (i+1) t1 t2 s2 h)
    ·rw[if_neg (λz=>ac (Sum.inr.inj z))]at h;rw[beq_eq_false_iff_ne.mpr ac];refine kat_no ?_;cases hb:(b&&i == 0) with
     |true=>exact oneLt_str h
     |false=>exact kat_one _ _ (lt_str (show PySem.W.BoolBack Q (.bool (decide (a.cps.toList<c.cps.toList))) s from h))
theorem Bb{x y:r_}{ks:Zg 0}{Q:jn Bool}(hx:IsTup s.heap x us.toArray)(hy:IsTup s.heap y ws.toArray)(r1:aS (ks.map kV) us)(r2:aS (ls.map kV) ws)(e:shape ks=shape ls)(h:Q (cD ks ls) s):
  B_ (keyLt' (tuples' b) (.ref x) (.ref y)) Q E s:=by
 let⟨ox,o9,_,n,dx⟩:=hx;let⟨oy,qr,_,m,dy⟩:=hy;refine kat_lt o9 dx qr dy ?_;let l1:=r1.length;let l2:=r2.length;let l3:ks.length=ls.length:=by simpa using congrArg YH e
 rw[za]at l1 l2;let hf:decide (us.toArray.size<ws.toArray.size)=false:=decide_eq_false (by simp;omega);rw[hf];show pY ks ls us ws 0 r1 r2 e h
theorem Bc{h:t_}{b:Bool}{sh:x_ Bool}:∀{vs:ZE 0}{aa:x_ (Zg 0)},iZ h vs aa->(∀ks∈aa,shape ks=b::sh)->∃fs:ZE 0,fs.length=vs.length/\KatTups h vs fs/\∀f∈fs,typeOf f=pure (.type (if b then "int" else "str"))
 |_,_,.nil,_=>⟨[],rfl,KatTups.nil,λ_ hf=>nomatch hf⟩
 |_,_,.cons (b:=ks) ⟨a,us,e,⟨o,ho,hc,n,hd⟩,r⟩ t,hs=>by
  let⟨fs,hl,ht,hT⟩:=Bc t λx hx=>hs x (y9 _ hx);let h0:=hs ks y8;subst e;cases ks with
  |nil=>cases h0
  |cons k ks=>
   cases r with
   |cons rk rks=>
    rename_i u us';let hk:fS k=b:=by simpa using congrArg List.head? h0
    refine⟨u::fs,by simp[hl],KatTups.cons ho hc hd (by simp) ht,λf hf=>?_⟩;rcases zq.mp hf with rfl|hf
    ·cases k with
     |inl i=>let⟨tk,rfl⟩:=rk;subst hk;rfl
     |inr x=>let⟨tk,rfl⟩:=rk;subst hk;rfl
    ·show hT f hf
theorem D9{vs:ZE 0}{Q:jn SortKind}(t:iZ s.heap vs aa)(hs:∀ks∈aa,shape ks=b::sh)(h0:0<vs.length)(h:Q (tuples' true) s):B_ (keyKind' vs.toArray) Q E s:=by
 let⟨fs,hl,ht,hT⟩:=Bc t hs;refine kat_kind (T:=.type (if b then "int" else "str")) ht ⋯ (λv hv=>by rw[hT v hv];show Looks.now) (by cases b <;> rfl) ?_;have:((Value.type (if b then "int" else "str")) != Value.type "tuple")=true:=by cases b <;> rfl
 rw[this];show h
theorem xM{P:PySem.Fin->q_->Prop}(ho:s.heap.get? a=a_ (seqObj "list" ([]:ZE 0).toArray n))(h:P (.done (.ret .none)) {s with heap:=sortedHeap s.heap a [] #[]}):B_ (Builtin.«list.sort» ⟨[.ref a],[]⟩) P E s:=by
 rw[list_sort_plain];refine yx (listItems_at ho rfl ?_);refine yx (XJ ho rfl ?_ (z8 _) (z8 _));let ha:a<(e_ s):=zi ho;obtain⟨e1,c7⟩:∃e1,(V_ (Wg λ_=>#[])).get? a=a_ (seqObj "list" #[] e1):=⟨_,Yo ho (λ_=>#[])⟩;refine yx (seqEpoch_at c7 rfl ?_);refine yx (wpAny_newTuple ?_ (z8 _));refine yx (wpAny_newList ?_ (z8 _));refine WV ?_;let i7:(((V_ (Wg λ_=>#[])).push (seqObj "tuple" ([]:ZE 0).toArray 0)).push (seqObj "list" #[] 0)).get? a=a_ (seqObj "list" #[] e1):=by rw[Xu _ _ _ (by rw[size_push',YF];show Io (Nat.lt_succ_of_lt ha)),Xu _ _ _ (by rw[YF];show Io ha)];show c7
 change B_ _ P E {s with heap:=((V_ (Wg λ_=>#[])).push (seqObj "tuple" ([]:ZE 0).toArray 0)).push (seqObj "list" #[] 0)}
 dsimp only;rw[if_pos nofun,if_pos nofun];refine yx (yz ?_);rw[StateT.run_pure];refine yx (yz ?_);dsimp only;refine yx (seqEpoch_at i7 rfl ?_);let e0:(Array.map (λx=>x.snd) (arrOf (SortSt.mk' general' ((#[]:Y6 0).zip (#[]:Y6 0)) #[] 7 b_)))=(#[]:Y6 0):=by
  change Array.map (λx=>x.snd) ((#[]:Y6 0).zip (#[]:Y6 0))=#[]
  simp
 refine yx (XJ i7 rfl ?_ (z8 _) (hsz2:=by
  let e1:(Array.map (λx=>x.snd) (arrOf (SortSt.mk' general' ((#[]:Y6 0).zip (#[]:Y6 0)) #[] 7 b_))).size=0:=by rw[e0];rfl
  first|exact Wu (Nat.le_of_eq e1) (z8 _)|(show _<=_;omega)))
 simp only[bne_self_eq_false,Ww,if_false];refine yz ?_
 change P (.done (.ret .none)) {s with heap:=(((V_ (Wg λx=>#[])).push (seqObj "tuple" ([]:ZE 0).toArray 0)).push (seqObj "list" #[] 0)).update a (Wg λx=>Array.map (λx=>x.snd) (arrOf (SortSt.mk' general' ((#[]:Y6 0).zip (#[]:Y6 0)) #[] 7 b_)))}
 rw[e0];show h
theorem Da{v:qe}(uh:ZE 0->q_->Prop)(hc:k_ prog w A.in1 (collect v) uh E s)(h:∀vs s1,uh vs s1->vs.length<64/\∃lt:Nat->Nat->Bool,(∀i j k,i<vs.length->j<vs.length->k<vs.length->lt j i=false->lt k j=false->lt k i=false)/\(∀i j,i<vs.length->j<vs.length->lt i j=true->lt j i=false)/\
   (∀(A':td)(s':q_),(∀b o,s1.heap.get? b=a_ o->s'.heap.get? b=a_ o)->0<vs.length->∀(Q:jn SortKind) E',Q κ s'->k_ prog w A' (keyKind' vs.toArray) Q E' s')/\
   (∀(s':q_),(∀b o,s1.heap.get? b=a_ o->s'.heap.get? b=a_ o)->∀i j,i<vs.length->j<vs.length->∀Q:jn Bool,Q (lt i j) s'->k_ prog w A.in1.in1 (keyLt' κ (ZC 0) (vs.getD j zo)) Q (λ_ _=>False) s')/\
   ∀(p:x_ Nat)(h':t_)(e:Nat),p.Perm (z0 vs.length)->p.Pairwise (λi j=>lt j i=false)->(∀b o,s1.heap.get? b=a_ o->ZW 0=a_ o)->h'.get? (e_ s1)=a_ (seqObj "list" (p.map λi=>ZC 0).toArray e)->Q (.ref (e_ s1)) {s1 with heap:=h'}):
  B_ (call (.builtin "sorted") [v]) Q E s:=by
 refine Calls.call_function_entry kind_sorted plain_sorted entry_sorted (args_sorted1 _) ?_;unfold Builtin.«sorted»;refine yx (m:=checkCount "sorted" 1 1 _) (yz ?_);refine yx (Xg hc (λvs s1 c=>?_) λ_ _ x=>x);let⟨h64,lt,tr,as,hk,ai,fin⟩:=h vs s1 c;refine yx (wpAny_newList ?_ (by rw[Wm];omega));let gi:(s1.heap.push (seqObj "list" vs.toArray 0)).get? (e_ s1)=a_ (seqObj "list" vs.toArray 0):=ZL 0;let keep:∀b o,s1.heap.get? b=a_ o->b≠(e_ s1)/\(s1.heap.push (seqObj "list" vs.toArray 0)).get? b=a_ o:=λb o q=>⟨Io (zi q),y6 _ q⟩
 change I_ _ _ _ {s1 with heap:=s1.heap.push (seqObj "list" vs.toArray 0)}
 refine yx (WV (Ws slot_list_sort ⟨_,gi,rfl⟩ entry_list_sort ?_ (args_list_sort _)));let tree:k_ prog w A.in1.in1 (Builtin.«list.sort» ⟨[.ref (e_ s1)],[]⟩) (λr s'=>∃p:x_ Nat,r=.done (.ret .none)/\p.Perm (z0 vs.length)/\p.Pairwise (λi j=>lt j i=false)/\s'={s1 with heap:=sortedHeap (s1.heap.push (seqObj "list" vs.toArray 0)) (e_ s1) vs (p.map λi=>ZC 0).toArray}) E {s1 with heap:=s1.heap.push (seqObj "list" vs.toArray 0)}:=by
  by_cases h0:0<vs.length
  ·show A3 (κ:=κ) lt tr as gi h64 (λs' kp Q hq=>hk _ s' (λb o e=>kp b o (keep b o e).1 (keep b o e).2) h0 Q _ hq) (λs' kp i j hi hj Q hq=>ai s' (λb o e=>kp b o (keep b o e).1 (keep b o e).2) i j hi hj Q hq) λp a1 a2=>⟨p,rfl,a1,a2,rfl⟩
  ·let e0:vs=[]:=List.length_eq_zero_iff.mp ⋯;subst e0;show xM gi ⟨[],rfl,List.Perm.refl _,List.Pairwise.nil,rfl⟩
 refine Xg tree (λr s' hr=>?_) λ_ _ x=>x;let⟨p,rfl,a1,a2,rfl⟩:=hr;refine⟨_,rfl,yz ⟨_,rfl,?_⟩⟩;let⟨e,he⟩:=sortedHeap_at (h:=s1.heap.push (seqObj "list" vs.toArray 0)) (out:=(p.map λi=>ZC 0).toArray) gi;show fin p _ e a1 a2 (λb o q=>(sortedHeap_old (keep b o q).1 (by rw[size_push'];show Nat.lt_succ_of_lt (zi q))).trans (keep b o q).2) he
end
def xN(H:Hp)(ps:x_ (r_×x_ V)):Hp:=λb=>match ps.lookup b with
 |some xs=>a_ (.tup xs)
 |none=>H b
theorem zL{κ:Type}{x:r_}{k:κ}:∀{l:x_ (r_×κ)},l.lookup x=a_ k->(x,k)∈l
 |[],h=>by simp at h
 |(n,v)::r,h=>by
  by_cases hx:x=n
  ·subst hx;simp only[zx,beq_self_eq_true]at h;cases h
   show y8
  ·have:(x == n)=false:=by simpa using hx
   simp only[zx,this]at h;show y9 _ (zL h)
theorem vC{κ:Type}{x:r_}:∀{l:x_ (r_×κ)},(∀p∈l,p.1≠x)->l.lookup x=b_
 |[],_=>rfl
 |(n,v)::r,h=>by
  let hx:(x == n)=false:=by have:=h (n,v) y8;simpa using λe:x=n=>this e.symm
  simp only[zx,hx];show vC λp hp=>h p (y9 _ hp)
theorem FD{ps:x_ (r_×x_ V)}{b:r_}(h:∀p∈ps,p.1≠b):xN H ps b=H b:=by unfold xN;rw[vC h]
theorem FF{H:Hp}:∀{ps:x_ (r_×x_ V)}{j:Nat}{a:r_}{xs:x_ V},(ps.map (·.1)).Nodup->ps[j]?=a_ (a,xs)->xN H ps a=a_ (.tup xs)
 |[],_,_,_,_,h=>by simp at h
 |(n,v)::r,0,a,xs,_,h=>by simp at h;let⟨rfl,rfl⟩:=h;unfold xN;simp[zx]
 |(n,v)::r,j+1,a,xs,nd,h=>by
  let yp:(n::r.map (·.1)).Nodup:=nd;let⟨n1,n2⟩:=Xy.mp yp;let h':r[j]?=a_ (a,xs):=by simpa using h
  let ne:(a == n)=false:=by have:a∈r.map (·.1):=zm.mpr ⟨_,Wn h',rfl⟩;simpa using λe:a=n=>n1 (e▸this)
  let ih:=FF (H:=H) n2 h';unfold xN at ih⊢;simp only[zx,ne];show ih
theorem Inv.laidT{ps:x_ (r_×x_ V)}(I:N_ s)(k:∀b u,Y1 0=a_ u->ZW 0=a_ u)(hp:∀p∈ps,(e_ s)<=p.1)(new:∀p∈ps,p.2.length<=zf/\∃its:ZE 0,aS p.2 its/\wR h' p.1 its.toArray):
  h_ (xN H ps) {s with heap:=h',toks:=t'}:=by
 let nb:∀b,b<(e_ s)->∀p∈ps,p.1≠b:=λb hb p p8 e=>WT _ (zr hb (e▸hp p p8));let old:∀b,b<(e_ s)->xN H ps b=H b:=λb hb=>FD (nb b hb);refine I.un ⟨λb u q _ _ _=>k b u q,λb u q _ _ _=>⟨u.slots,k b u q⟩,λb u q n _=>(old b (zi q)).trans n,λb u q _=>⟨u,k b u q⟩,λb xs q=>(old b (I.hok.lt q)).trans q,λb u xs q=>(old b (I.hok.lt q)).trans q,λb ps' q=>⟨#[],by rw[old b (I.hok.lt q),q];simp⟩⟩ ?_;intro b u e;unfold xN at e;cases q:ps.lookup b with
 |some xs=>
  rw[q]at e;cases e
  let⟨z,its,r,p⟩:=new _ (zL q);show⟨z,its,r,p⟩
 |none=>rw[q]at e;let hb:=I.hok.lt e;show(I.hok b u e).stay (λc v _ q=>k c v q) (λc q=>(old c (I.hok.lt q)).trans q) λc xs q=>(old c (I.hok.lt q)).trans q
theorem Kg(I:N_ s){ps:x_ (r_×x_ V)}(hp:∀p∈ps,(e_ s)<=p.1):Fv H (xN H ps):=λb o e=>by let nb:∀p∈ps,p.1≠b:=λp p8 z=>WT _ (zr (I.hok.lt e) (z▸hp p p8));rw[FD nb];show e
def RS(v d:r_):HO:=.ext λh=>h.IsItemsView v d
def DX(K:y0)(aa:x_ (Zg 0))(Q:VK)(H1:Hp):Prop:=∀(l:r_)(dm:x_ (Zg 0))(cg:x_ V),H1 l=b_->dm.Perm aa->dm.Pairwise (λa b=>cD b a=false)->eO K H1 (dm.map tD) cg->Q (.ref l) (upd H1 l (.lst cg))
def RT(K:y0):x_ V->Hp->VK->Prop:=λxs H Q=>∃(p:r_)(aa:x_ (Zg 0))(sh:x_ Bool)(b:Bool),xs=[.ref p]/\aa.length<64/\(∀ks∈aa,shape ks=b::sh)/\
 ((∃vs,ZI p vs/\eO K H (aa.map tD) vs/\DX K aa Q H)\/
  (∃d kvs,H p=a_ (RS p d)/\H d=a_ (.dK kvs)/\kvs.map (λkv=>[kV kv.1,kv.2])=aa.map (λks=>ks.map kV)/\∀H1,Fv H H1->DX K aa Q H1))
theorem xO{α:Type}{xs:x_ α}{d:α}{p:x_ Nat}(h:p.Perm (z0 xs.length)):(p.map λi=>xs.getD i d).Perm xs:=by
 let e:(z0 xs.length).map (λi=>xs.getD i d)=xs:=by
  apply Xt;intro i;by_cases hi:i<xs.length
  ·simp[hi]
  ·simp[hi]
 have:=h.map λi=>xs.getD i d
 rwa[e]at this
theorem Dc{K:y0}{H:Hp}{ds:x_ D}{vs:x_ V}(r:eO K H ds vs):∀{p:x_ Nat},(∀i∈p,i<ds.length)->eO K H (p.map λi=>ds.getD i .non) (p.map λi=>vs.getD i .non)
 |[],_=>trivial
 |i::p,h=>by
  let hi:=h i y8;let g:ds[i]?=a_ (ds.getD i .non):=by simp[hi]
  let⟨v,hv,hr⟩:=r.at g;let e:vs.getD i .non=v:=by simp[WC,hv]
  refine⟨?_,Dc r λj hj=>h j (y9 _ hj)⟩
  change Rep K H (ds.getD i .non) (vs.getD i .non)
  rw[e];show hr
theorem rQ{vs:x_ V}{us:ZE 0}(r:aS vs us):∀{p:x_ Nat},(∀i∈p,i<vs.length)->aS (p.map λi=>vs.getD i .non) (p.map λi=>us.getD i zo)
 |[],_=>.nil
 |i::p,h=>by
  let hi:=h i y8;let g:vs[i]?=a_ (vs.getD i .non):=by simp[hi]
  let⟨u,hu,hr⟩:=r.get g;let e:us.getD i zo=u:=by simp[WC,hu]
  refine .cons ?_ (rQ r λj hj=>h j (y9 _ hj))
  change RelV (vs.getD i .non) (us.getD i zo)
  rw[e];show hr
theorem DY(hc:X.calm=true)(K:y0)(hK:X.K=K):eL X (.builtin "sorted") (RT K):=by
 subst hK;intro FR s σ H xs us Q I r h;let⟨p,aa,sh,b,rfl,h64,hsh,h⟩:=h;let⟨u,rfl,ru⟩:=vals1 r;cases ru
 let az:∀i,i<aa.length->shape (aa.getD i [])=b::sh:=λi hi=>by
  have:aa.getD i []=aa[i]:=by simp[hi]
  rw[this];show hsh _ (Xd hi)
 refine Da (κ:=tuples' true) (λits s1=>∃H1 vs,h_ H1 s1/\aS vs its/\eO X.K H1 (aa.map tD) vs/\DX X.K aa Q H1) ?col ?fin
 case fin=>
  rintro its s1 ⟨H1,vs,I1,rv,rr,fin⟩;let l1:=rv.length;let l2:aa.length=vs.length:=by simpa using rr.length
  let hlen:its.length=aa.length:=⋯;let tk:=tE I1 rr rv;refine⟨⋯,λi j=>cD (aa.getD i []) (aa.getD j []),λi j k hi hj hk h1 h2=>?_,λi j _ _ h=>uZ h,λA' s' kp h0 Q' E' hq=>?_,λs' kp i j hi hj Q' hq=>?_,λq h' e a1 a2 kp he=>?_⟩
  ·show rP ((az i ⋯).trans (az j ⋯).symm) ((az j ⋯).trans (az k ⋯).symm) h1 h2
  ·show D9 (tk.kept kp) hsh h0 hq
  ·let⟨a,ua,e1,p1,r1⟩:=(tk.kept kp).get hi;let⟨c,uc,e2,p2,r2⟩:=(tk.kept kp).get hj;rw[e1,e2];show Bb p1 p2 r1 r2 ((az i ⋯).trans (az j ⋯).symm) hq
  ·let bt:∀i∈q,i<aa.length:=λi hi=>by have:=a1.mem_iff.mp hi;rw[List.mem_range]at this;omega
   rw[hlen]at a1;let u5:=Dc rr (p:=q) (λi hi=>by rw[za];show bt i hi);let em:(q.map λi=>(aa.map tD).getD i .non)=(q.map λi=>aa.getD i []).map tD:=by rw[Wp];apply WW;intro i hi;have:=bt i hi;simp[this]
   rw[em]at u5;refine⟨.ref (e_ s1),_,I1.laid (t':=s1.toks) (o:=.lst (q.map λi=>vs.getD i .non)) kp (zd _) ?_,rfl,fin _ _ _ I1.fresh (xO a1) ?_ u5⟩
   ·refine⟨?_,q.map (λi=>its.getD i zo),e,rQ rv (λi hi=>by have:=bt i hi;omega),he⟩;rw[za,a1.length_eq,Xv,Wm];omega
   ·rw[Xi];show a2
 case col=>
  rcases h with⟨vs,hq,rr,fin⟩|⟨d,kvs,hv,hd,hk,fin⟩
  ·let⟨its,rv,pl,hz⟩:=I.list hq;refine collect_list pl.isList ?_ (by have:=rv.length;omega);show⟨H,vs,I.kept (t':=s.toks) λb o e=>by
    let ai:b<(e_ s):=zi e
    first
     |(rw[Heap.get?_update_ne _ _ _ _ (Io ai),Xu _ _ _ (Io ai)];show e)
     |exact y6 _ e,rv,rr,fin⟩
  ·let⟨dk,_,_⟩:=I.hok p _ hv;let⟨z,y,vs,ia,D⟩:=I.hok d _ hd;let⟨ep,D'⟩:=D.dictAt;let lkv:kvs.length=vs.length:=KV.length ia;let lks:kvs.length=aa.length:=by simpa using congrArg YH hk
   refine kdx_collect (A:=X.A.in1) (knd:=cJ X.prog X.w) (kvs:=vs) (ep:=ep) (I.ok.hd hc) dk D' (by rw[Wm];omega) λh' tk as kp hl hG=>?_
   -- the new tuples
   letI ps:x_ (r_×x_ V):=as.zip (aa.map λks=>ks.map kV);let qb:ps.map (·.1)=as:=by
    change(as.zip _).map Prod.fst=as
    rw[List.map_fst_zip];rw[za];omega
   let ba:∀q∈ps,(e_ s)<=q.1:=λq hq=>by
    have:q.1∈as:=by rw[<-qb];show zm.mpr ⟨q,hq,rfl⟩
    show XE (hG.above _ this)
   let nd:(ps.map (·.1)).Nodup:=by rw[qb];show hG.rise.imp λh=>Io h
   let each:∀(j:Nat)(a:r_),as[j]?=a_ a->∃ks us,aa[j]?=a_ ks/\ps[j]?=a_ (a,ks.map kV)/\aS (ks.map kV) us/\wR h' a us.toArray/\ks.length<=2:=λj a ha=>by
    let⟨key,kk,x,e1,e2,e3⟩:=hG.pairs j a ha;let hj:j<aa.length:=by have:=(yy.mp ha).1;omega
    let vq:j<kvs.length:=⋯;let g1:aa[j]?=a_ aa[j]:=by simp[hj]
    let g2:kvs[j]?=a_ kvs[j]:=by simp[vq]
    let g3:(aa[j]).map kV=[kV kvs[j].1,kvs[j].2]:=by have:=congrArg (λl=>l[j]?) hk;simp[g1,g2]at this;show this.symm
    -- the raw pair
    let rr:∀{kvs:x_ (Key×V)}{vs:x_ (Key×qe)}{j:Nat}{kv:Key×V}{w':Key×qe},KV kvs vs->kvs[j]?=a_ kv->vs[j]?=a_ w'->kv.1=w'.1/\RelV kv.2 w'.2:=by
     intro kvs vs j kv w' h
     induction h generalizing j with
     |nil=>intro h1;simp at h1
     |cons r t ih=>
      intro h1 h2;cases j with
      |zero=>simp at h1 h2;subst h1 h2;show r
      |succ j=>exact ih (ke h1) (ke h2)
    let⟨q1,q2⟩:=rr ia g2 e1;refine⟨aa[j],[key,x],g1,?_,?_,⟨_,e3,rfl,⟨0,rfl⟩,rfl⟩,?_⟩
    ·change(as.zip _)[j]?=_
     rw[List.getElem?_zip_eq_some];show⟨ha,by simp[g1]⟩
    ·rw[g3];refine .cons ?_ (.cons q2 .nil);rw[q1];let xc:zA kk key=true:=e2;rcases cF xc with⟨i,t,rfl,rfl⟩|⟨y,t,rfl,rfl⟩
     ·show⟨t,rfl⟩
     ·show⟨t,rfl⟩
    ·have:=congrArg YH g3;simp at this;omega
   let I1:h_ (xN H ps) {s with heap:=h',toks:=tk}:=I.laidT kp ba λq hq=>by
    let⟨j,hj⟩:=List.mem_iff_getElem?.mp hq;let ha:as[j]?=a_ q.1:=by have:=congrArg (λl=>l[j]?) qb;simp[hj]at this;show this.symm
    let⟨ks,us,_,e2,e3,e4,e5⟩:=each j q.1 ha;rw[hj]at e2;let eq2:q.2=ks.map kV:=by have:=zl e2;rw[this]
    refine⟨?_,us,by rw[eq2];show e3,e4⟩;rw[eq2,za,Wm];omega
   refine⟨xN H ps,as.map V.ref,I1,?_,?_,fin _ (Kg I ba)⟩
   ·have:∀l:x_ r_,aS (l.map V.ref) (l.map Wh):=λl=>by
     induction l with
     |nil=>exact .nil
     |cons a l ih=>exact .cons rfl ih
    show this as
   ·let gen:∀(l:x_ r_)(ls:x_ (Zg 0)),l.length=ls.length->(∀(j:Nat) a ks,l[j]?=a_ a->ls[j]?=a_ ks->xN H ps a=a_ (.tup (ks.map kV)))->eO X.K (xN H ps) (ls.map tD) (l.map V.ref):=by
     intro l
     induction l with
     |nil=>
      intro ls hl _;cases ls with
      |nil=>exact trivial
      |cons _ _=>cases hl
     |cons a l ih=>
      intro ls hl hh;cases ls with
      |nil=>cases hl
      |cons ks ls=>refine⟨⟨a,_,rfl,SqT.of (hh 0 a ks rfl rfl),D8 ks⟩,ih ls (ke hl) λj a' cc h1 h2=>hh (j+1) a' cc (ke h1) (ke h2)⟩
    refine gen as aa ⋯ λj a ks h1 h2=>?_;let⟨cc,us,e1,e2,_⟩:=each j a h1;rw[h2]at e1;cases e1
    show FF nd e2
variable{key:qe}
section
variable{K:Type}[DecidableEq K]
theorem A4{knd:HeapKind prog w K}{d:r_}{xs:x_ (K×r_×qe)}{k:K}{x:qe}(hu:knd.room A)(ao:knd.is s.heap k a)(hm:s.heap.DictOfH knd d xs)(hz:xs.length<=zf)(there:∀p,ZN k=a_ p->Q p.2 { s with toks:=s.toks+knd.draws k})(new:ZN k=b_->∀h',h'.DictOfH knd d (storedH xs k a x)->WX d s.heap h'->Q x {s with heap:=h',toks:=s.toks+knd.draws k}):B_ (YB d (.ref a) x) Q E s:=by
 let⟨o,es,ep,ho,hc,hd,he,uy,hn⟩:=hm;unfold YB;refine WV (yx (knd.pyHash hu ao ?_));refine yx (wpAny_dictFind_heap (s:={ s with toks:=s.toks+knd.draws k}) hu ao ho hd he uy hn (λjv=>?_) (λj p hj=>?_))
 ·let fu:=atKey_none_of_get jv;let fresh:=not_mem_keys_of_get jv;refine yx (YN (yx (wpAny_updateDictKeys (hz:=by let e:=size_of_entries he;omega) (s:={ s with toks:=s.toks+knd.draws k}) ho hd (yz (new fu _ ⟨_,_,ep+1,W1 _ ho (Obj.isFreed_of_dict (Yx hd _)),hc.mapDictKeys _,Yx hd _,?_,?_,?_⟩ (Wa ..))))))
  ·rw[storedH_new fu,Array.toList_push,he,WB];rfl
  ·rw[storedH_new fu];intro z hz';rcases Wc.mp hz' with q|q
   ·show knd.keeps (uy z q) ho hd (Wa ..)
   ·rw[z7.mp q];show knd.keeps ao ho hd (Wa ..)
  ·rw[storedH_new fu,WB,X0];refine⟨hn,by simp,λu jf v hv e=>fresh ?_⟩;have:v=k:=by simpa using hv
   rw[<-this,<-e];show jf
 ·let fu:ZN k=a_ p:=atKey_of_get hn hj;refine yx (WJ (s:={ s with toks:=s.toks+knd.draws k}) ho hd ?_);rw[entry_at he j,hj];show yx (YN (yz (there p fu)))
theorem xS{knd:KeyKind prog w K}{d:r_}{kvs:x_ (K×qe)}{k:K}{x:qe}(ao:knd.is k key=true)(hm:s.heap.DictOf knd d kvs)(hz:kvs.length<=zf)(there:∀v,valueAt kvs k=a_ v->Q v { s with toks:=s.toks+1})(new:valueAt kvs k=b_->∀h',h'.DictOf knd d (stored kvs k x)->WX d s.heap h'->Q x {s with heap:=h',toks:=s.toks+1}):B_ (YB d key x) Q E s:=by
 let l7:=hm.mapOf;let⟨o,es,ep,ho,hc,hd,hk,hp,hn⟩:=id hm;let c6:es.size<=zf:=by let e1:=hp.length;rw[YG]at e1;omega
 unfold YB;refine WV (yx (knd.pyHash ao (yx (wpAny_dictFind_of (s:={ s with toks:=s.toks+1}) ao ho hd hk ?_))));let qm:(es.findIdx? λe=>knd.is k e.key)=kvs.findIdx? λkv=>decide (kv.1=k):=by rw[<-hp.findIdx k];let⟨l⟩:=es;simp
 cases hi:es.findIdx? λe=>knd.is k e.key with
 |some i=>
  refine yx (WJ (s:={ s with toks:=s.toks+1}) ho hd ?_);let⟨o',dw,dj,br,_,bq,_,hf⟩:=l7;obtain rfl:o=o':=zl (ho.symm.trans br);let qq:es=dw:=by rw[hd]at bq;injection bq
  subst qq;let ti:valueAt kvs k=(es[i]?).map (·.val):=by rw[<-hf k,findBy_of_findIdx?,hi]
  let ai:i<es.size:=(Array.findIdx?_eq_some_iff_findIdx_eq.mp hi).1;rw[Xj ai]at ti⊢;show yx (YN (yz (there _ ti)))
 |none=>
  let fresh:k∉kvs.map (·.1):=not_mem_of_findIdx_none (qm▸hi);let lp:¬ (kvs.any λkv=>decide (kv.1=k))=true:=by rw[List.any_eq_true];rintro⟨kv,q1,q2⟩;show fresh (zm.mpr ⟨kv,q1,of_decide_eq_true q2⟩)
  let hv:valueAt kvs k=b_:=by
   let⟨o',dw,dj,br,_,bq,_,hf⟩:=l7;obtain rfl:o=o':=zl (ho.symm.trans br);let qq:es=dw:=by rw[hd]at bq;injection bq
   subst qq;rw[<-hf k,findBy_of_findIdx?,hi]
  refine yx (YN (yx (wpAny_updateDictKeys (hz:=c6) (s:={ s with toks:=s.toks+1}) ho hd (yz (new hv _ ⟨_,_,ep+1,W1 _ ho (Obj.isFreed_of_dict (Yx hd _)),hc.mapDictKeys _,Yx hd _,hk.push ao _,?_,?_⟩ (Wa ..))))))
  ·rw[stored,if_neg lp];let q:=hp.append ao (knd.hash k) x;let⟨l⟩:=es;simpa using q
  ·rw[stored,if_neg lp,WB,X0];refine⟨hn,by simp,λu jf v jt e=>fresh ?_⟩;have:v=k:=by simpa using jt
   rw[<-this,<-e];show jf
end
section
variable{K:Type}[DecidableEq K]
theorem pM(knd:HeapKind prog w K)(d a:r_)(hd:(d == WL)=false)(x:qe):
  MeetsIn prog w (Builtin.«dict.setdefault» ⟨[.ref d,.ref a,x],[]⟩) (λA R s=>knd.room A.in1/\∃k xs,knd.is s.heap k a/\s.heap.DictOfH knd d xs/\xs.length<=zf/\(∀p,ZN k=a_ p->R (.ok (.ret p.2)) { s with toks:=s.toks+knd.draws k})/\
   (ZN k=b_->∀h',h'.DictOfH knd d (storedH xs k a x)->WX d s.heap h'->R (.ok (.ret x)) {s with heap:=h',toks:=s.toks+knd.draws k})):=
 .of_wp λA R s ⟨hu,k,xs,ao,hm,hz,r1,r2⟩=>by
  unfold Builtin.«dict.setdefault»;refine yx ?_;unfold Builtin.Dict.keyAndDefault;refine yx (XM hm.typeIs (show I_ (pure (d,Wh a,a_ x)) _ _ s from yz ?_))
  change I_ (if(d == WL)=true then _ else(YB d (.ref a) x >>= _)) _ _ s
  rw[if_neg (show ¬ _ from by rw[hd];decide)]
  show yx (A4 hu ao hm hz (λp e=>yz ⟨p.2,rfl,r1 p e⟩) λe h' q1 q2=>yz ⟨x,rfl,r2 e h' q1 q2⟩)
theorem nY(knd:KeyKind prog w K)(d:r_)(hd:(d == WL)=false){k:K}(ao:knd.is k key=true)(x:qe):
  MeetsIn prog w (Builtin.«dict.setdefault» ⟨[.ref d,key,x],[]⟩) (λA R s=>∃kvs,s.heap.DictOf knd d kvs/\kvs.length<=zf/\(∀v,valueAt kvs k=a_ v->R (.ok (.ret v)) { s with toks:=s.toks+1})/\
   (valueAt kvs k=b_->∀h',h'.DictOf knd d (stored kvs k x)->WX d s.heap h'->R (.ok (.ret x)) {s with heap:=h',toks:=s.toks+1})):=
 .of_wp λA R s ⟨kvs,hm,hz,r1,r2⟩=>by
  unfold Builtin.«dict.setdefault»;refine yx ?_;unfold Builtin.Dict.keyAndDefault;refine yx (XM hm.typeIs (show I_ (pure (d,key,a_ x)) _ _ s from yz ?_))
  change I_ (if(d == WL)=true then _ else(YB d key x >>= _)) _ _ s
  rw[if_neg (show ¬ _ from by rw[hd];decide)]
  show yx (xS ao hm hz (λv e=>yz ⟨v,rfl,r1 v e⟩) λe h' q1 q2=>yz ⟨x,rfl,r2 e h' q1 q2⟩)
end
variable{dc:r_}{ep:Nat}{oc:Obj}{it:r_}
section
variable{v:r_}{es:Array Yk}
theorem Kh(hv:s.heap.IsValuesView v dc)(h1:Zq 0=a_ oc)(h2:oc.data=.dict es ep)(q:Q (.ref (e_ s)) {s with heap:=s.heap.push {cls:=.type "dict_valueiterator",data:=.fields #[.ref dc,.int 0 0,.int es.size 0,.int ep 0]} }):B_ (pyIter (.ref v)) Q E s:=by
 let⟨ov,g1,g2,g3⟩:=id hv;refine wpAny_pyIter_slot hv.typeIs F.slot_dict_values_iter (Ws F.slot_dict_values_iter hv.typeIs F.entry_dict_values_iter (show I_ (Builtin.«dict_values.__iter__» _) _ _ _ from ?_) (F.args_dict_values_iter_1 _))
 unfold Builtin.«dict_values.__iter__»;refine yx (yz (yx ?_));unfold Builtin.Dict_items.dictOf;refine yx (YI g1 g3 (x:=.ref dc) rfl (yz (yx ?_)));unfold Builtin.Dict_items.newIterator;refine yx (WJ h1 h2 (yx (Xl h1 h2 ?_)));rw[show Wo "dict_valueiterator" = false by decide];simp only[Ww,if_false];refine We (yz ⟨_,rfl,"dict_valueiterator",_,⟨_,ZL 0,rfl⟩,WS.lookup,(by simpa[rawInt] using q)⟩)
theorem LZ{Q:y_ qe->q_->Prop}(hI:s.heap.IsValIter it dc i es.size ep)(h1:Zq 0=a_ oc)(h2:oc.data=.dict es ep)(ai:i<es.size)(q:∀h',h'.IsValIter it dc (i+1) es.size ep->WX it s.heap h'->Q (a_ es[i].val) {s with heap:=h'}):B_ (pyNext (.ref it)) Q E s:=by
 let⟨oi,g1,g2,g3⟩:=id hI;unfold pyNext;refine yx (Yu (WE (name:=WM "__next__") hI.typeIs WS (Ws WS hI.typeIs F.entry_dict_valueiterator_next ?_ (F.args_dict_valueiterator_next_1 _))));refine yx (yz (yx (yx ?_)))
 first|refine yx (Xo hI.typeIs (yz ?_))|refine yx (X1 hI.typeIs (yz ?_))
 refine yx (YC g1 g3 ?_);rw[show Wo "dict_valueiterator" = false by decide];simp only[Ww,if_false]
 change I_ (if(Wh dc == zo)=true then _ else _) _ _ s
 rw[if_neg (show ¬ ((Wh dc == zo)=true) from zj)]
 refine yx (yz (yx (WJ h1 h2 ?_)));rw[if_neg (show ¬ _ by simp)];refine yx (yz (yx (Xl h1 h2 ?_)));rw[if_neg (show ¬ _ by simp)];refine yz ?_;simp only[show ¬ ((i:Int)<0) by omega,if_false,Xw,Xj ai];refine yx ?_
 first|refine yx (Xo hI.typeIs (yz ?_))|refine yx (X1 hI.typeIs (yz ?_))
 refine yx (wpAny_isOneOf_valiter hI.typeIs (show I_ (setField (.ref it) 1 (rawInt ((i:Int)+1)) >>= _) _ _ s from yx (Yd g1 g3 (by simp) ?_)))
 let gp:(Z2 (Xr (·.setIfInBounds 1 (rawInt ((i:Int)+1))))).IsValIter it dc (i+1) es.size ep:=⟨_,W1 _ g1 (Yp (XN g3 _)),(Obj.cls_mapFields ..).trans g2,by rw[XN g3];simp[rawInt]⟩;let iz:({s with heap:=Z2 (Xr (·.setIfInBounds 1 (rawInt ((i:Int)+1))))}:q_).TypeIs (.ref it) "dict_valueiterator" := gp.typeIs;refine yx (WV (yx (wpAny_isOneOf_valiter iz (yx (wpAny_isOneOf_valiter iz ?_)))))
 change I_ (pure es[i].val) _ _ _
 show yz (yz ⟨_,rfl,yz (q _ gp (Wa ..))⟩)
theorem M0{Q:y_ qe->q_->Prop}(hh:A.handled=b_)(hI:s.heap.IsValIter it dc i es.size ep)(h1:Zq 0=a_ oc)(h2:oc.data=.dict es ep)(g9:es.size<=i)(q:∀h',Heap.ExtBut it s.heap h'->Q b_ {s with heap:=h'}):B_ (pyNext (.ref it)) Q E s:=by
 let⟨oi,g1,g2,g3⟩:=id hI;unfold pyNext;refine yx (Yu (WE (name:=WM "__next__") hI.typeIs WS (Ws WS hI.typeIs F.entry_dict_valueiterator_next ?_ (F.args_dict_valueiterator_next_1 _))));refine yx (yz (yx (yx ?_)))
 first|refine yx (Xo hI.typeIs (yz ?_))|refine yx (X1 hI.typeIs (yz ?_))
 refine yx (YC g1 g3 ?_);rw[show Wo "dict_valueiterator" = false by decide];simp only[Ww,if_false]
 change I_ (if(Wh dc == zo)=true then _ else _) _ _ s
 rw[if_neg (show ¬ ((Wh dc == zo)=true) from zj)]
 refine yx (yz (yx (WJ h1 h2 ?_)));rw[if_neg (show ¬ _ by simp)];refine yx (yz (yx (Xl h1 h2 ?_)));rw[if_neg (show ¬ _ by simp)];refine yz ?_;simp only[show ¬ ((i:Int)<0) by omega,if_false,Xw,XA g9];refine yx ?_
 first|refine yx (Xo hI.typeIs (yz ?_))|refine yx (X1 hI.typeIs (yz ?_))
 refine(show I_ (setField (.ref it) 0 .none >>= _) _ _ s from yx (Yd g1 g3 (by simp) ?_))
 refine(show I_ (newExc (.type "StopIteration") [] >>= _) _ _ _ from yx ?_);simp only[newExc,newTuple]
 refine yx (We (yx (m:=YD _ _) (wpAny_of_eq (a:=zo) (by first|rfl|(simp only[YD];rfl)) (We ?_ (by size_fits)))) (by size_fits))
 simp only[raiseNew];refine yx (wpAny_handled ?_);rw[show A.in1.handled=b_ from hh]
 refine yx (yz (wpAny_throw ?_));refine yx (wpAny_isInstance (T:="StopIteration") (b:=true) ⟨_,ZL 0,rfl⟩ isSubtype_stop ?_);show yz (q _ (((Wa ..).extBut.push _).push _))
theorem Hz(hh:A.handled=b_)(I dc:r_)(kz:dc≠I)(oc:Obj)(es:Array Yk)(ep:Nat)(h2:oc.data=.dict es ep):
  Walks prog w A I [I,dc] [I] es.size (λi v=>∃e,es[i]?=a_ e/\v=e.val) (λi h=>h.IsValIter I dc i es.size ep/\h.get? dc=a_ oc) where
 sub:=λb hb=>by rw[z7.mp hb];show y8
 frame:=λ_ _ _ st hk=>⟨let ⟨o,e,r⟩:=st.1;⟨o,hk I y8 o e,r⟩,hk dc (y9 _ y8) _ st.2⟩
 item:=λi s Q E hi st hQ=>LZ st.1 st.2 h2 hi λh' o1 dh=>hQ _ h' s.toks ⟨es[i],by simp[hi],rfl⟩ ⟨o1,(dh.2 dc kz).trans st.2⟩ λb o hb e=>(dh.2 b λz=>hb (by rw[z];show y8)).trans e
 done:=λs Q E st hQ=>M0 hh st.1 st.2 h2 (zd _) λh' gm=>hQ h' s.toks λb o hb e=>gm b o (λz=>hb (by rw[z];show y8)) e
 self:=λ_ _ _ _ st hQ=>wpAny_pyIter_valiter st.1 hQ
theorem M1{r:r_}(h2:oc.data=.dict es ep):PySem.W.KdlSrc prog w "dict_values" r dc es.size (λi v=>∃e,es[i]?=a_ e/\v=e.val) (λh=>h.IsValuesView r dc/\h.get? dc=a_ oc) where
 type:=λ_ hm=>hm.1.typeIs
 there:=λ_ hm=>⟨let ⟨_,ho,_⟩:=hm.1;zi ho,zi hm.2⟩
 keep:=λ_ _ hm hk=>⟨let ⟨o,ho,x⟩:=hm.1;⟨o,hk r (.inl rfl) o ho,x⟩,hk dc (.inr rfl) _ hm.2⟩
 notList:=by decide
 notTuple:=by decide
 hint:=λ_ _ _ _ hm hq=>PySem.W.kdl_hint_values hm.1.typeIs hq
 iter:=λ_ _ hh hm=>⟨_,_,(λ_ _ hq=>Kh hm.1 hm.2 h2 hq),Hz hh _ dc (Io (zi hm.2)) oc es ep h2,⟨⟨_,ZL 0,rfl,rfl⟩,y6 _ hm.2⟩⟩
theorem DZ(dc:r_)(hd:(dc == WL)=false):MeetsIn prog w (Builtin.«dict.values» ⟨[.ref dc],[]⟩) (λ_ R s=>s.TypeIs (.ref dc) "dict" /\
   R (.ok (.ret (.ref (e_ s)))) {s with heap:=s.heap.push {cls:=.type "dict_values",data:=.fields #[.ref dc]} }):=
 .of_wp λA R s ⟨hT,h⟩=>by
  refine yx ?_;unfold Builtin.Dict.noArgs;refine yx (XM hT (show I_ (pure dc) _ _ s from yz (show I_ (Xm dc >>= _) _ _ s from ?_)))
  unfold Xm;rw[if_neg (show ¬ _ from by rw[hd];decide)]
  refine yx (yz (yx (We (yz ⟨_,rfl,h⟩))))
end
variable{ov:qe}
theorem lX{ok:qe}(hI:IsItemIter s.heap it dc i n ep ok ov):s.TypeIs (.ref it) "dict_itemiterator" := ⟨_,hI,rfl⟩
theorem HA{v:r_}{es:Array Yk}(hv:s.heap.IsItemsView v dc)(h1:Zq 0=a_ oc)(h2:oc.data=.dict es ep)(q:Q (.ref (e_ s)) {s with heap:=s.heap.push {cls:=.type "dict_itemiterator",data:=.fields #[.none,.bool false,.ref dc,.int 0 0,.int es.size 0,.int ep 0,.none,.none]} }):B_ (pyIter (.ref v)) Q E s:=by
 let⟨ov,g1,g2,g3⟩:=id hv;refine wpAny_pyIter_slot hv.typeIs F.slot_dict_items_iter (Ws F.slot_dict_items_iter hv.typeIs F.entry_dict_items_iter (show I_ (Builtin.«dict_items.__iter__» _) _ _ _ from ?_) (F.args_dict_items_iter_1 _))
 unfold Builtin.«dict_items.__iter__»;refine yx (yz (yx ?_));unfold Builtin.Dict_items.dictOf;refine yx (YI g1 g3 (x:=.ref dc) rfl (yz (yx ?_)));unfold Builtin.Dict_items.newIterator;refine yx (WJ h1 h2 (yx (Xl h1 h2 ?_)));rw[show Wo "dict_itemiterator" = true by decide];simp only[if_true,Builtin.Dict_items.ownedTupleFields,YE,List.nil_append,Ww,if_false];refine We (yz ⟨_,rfl,"dict_itemiterator",_,⟨_,ZL 0,rfl⟩,WI.lookup,(by simpa[rawInt] using q)⟩)
theorem next_item{es:Array Yk}{ok:qe}{Q:y_ qe->q_->Prop}(hI:IsItemIter s.heap it dc i es.size ep ok ov)(h1:Zq 0=a_ oc)(h2:oc.data=.dict es ep)(ai:i<es.size)(q:∀h',IsItemIterOut h' it dc (i+1) es.size ep es[i].key es[i].val (e_ s)->h'.get? (e_ s)=a_ {cls:=.type "tuple",data:=.seq #[es[i].key,es[i].val]}->
   (∀(b:r_)(o:Obj),b≠it->Y1 0=a_ o->ZW 0=a_ o)->Q (c_ (e_ s)) {s with heap:=h'}):B_ (pyNext (.ref it)) Q E s:=by
 let hT:=lX hI;unfold pyNext;refine yx (Yu (WE (name:=WM "__next__") hT WI (Ws WI hT F.entry_dict_itemiterator_next ?_ (F.args_dict_itemiterator_next_1 _))));refine yx (yz (yx (yx ?_)))
 first|refine yx (Xn hT (yz ?_))|refine yx (XS hT (yz ?_))
 refine yx (YC hI rfl ?_);rw[show Wo "dict_itemiterator" = true by decide];simp only[if_true]
 change I_ (if(Wh dc == zo)=true then _ else _) _ _ s
 rw[if_neg (show ¬ ((Wh dc == zo)=true) from zj)]
 refine yx (yz (yx (WJ h1 h2 ?_)));rw[if_neg (show ¬ _ by simp)];refine yx (yz (yx (Xl h1 h2 ?_)));rw[if_neg (show ¬ _ by simp)];refine yz ?_;simp only[show ¬ ((i:Int)<0) by omega,if_false,Xw,Xj ai];refine yx ?_
 first|refine yx (Xn hT (yz ?_))|refine yx (XS hT (yz ?_))
 refine yx (wpAny_isOneOf_itemiter hT (show I_ (setField (.ref it) 3 (rawInt ((i:Int)+1)) >>= _) _ _ s from yx (Yd hI rfl (by simp) ?_)))
 let gp:IsItemIter (Z2 (Xr (·.setIfInBounds 3 (rawInt ((i:Int)+1))))) it dc (i+1) es.size ep ok ov:=by
  change(Z2 _).get? it=_
  rw[W1 _ hI (Yp (XN rfl _))];simp[Xr,rawInt]
 let kp:∀(b:r_)(o:Obj),b≠it->Y1 0=a_ o->(Z2 (Xr (·.setIfInBounds 3 (rawInt ((i:Int)+1))))).get? b=a_ o:=λb o hb e=>by rw[(Wa ..).2 b hb];show e
 let sz:(Z2 (Xr (·.setIfInBounds 3 (rawInt ((i:Int)+1))))).objs.size=(e_ s):=(Wa ..).1;generalize s.heap.update it (Xr (·.setIfInBounds 3 (rawInt ((i:Int)+1))))=hA at gp kp sz;let iz:({s with heap:=hA}:q_).TypeIs (.ref it) "dict_itemiterator" := lX gp;refine yx (WV (yx (wpAny_isOneOf_itemiter iz (yx (wpAny_isOneOf_itemiter iz ?_)))))
 change I_ (Builtin.Dict_items.pairFromOwner (.ref it) 6 es[i].key es[i].val) _ _ _
 unfold Builtin.Dict_items.pairFromOwner;simp only[newTuple];refine yx (We ?_ (by size_fits));let ka:IsItemIter (hA.push {cls:=.type "tuple",data:=.seq #[es[i].key,es[i].val]}) it dc (i+1) es.size ep ok ov:=y6 _ gp;let gt:(hA.push {cls:=.type "tuple",data:=.seq #[es[i].key,es[i].val]}).get? hA.objs.size=a_ {cls:=.type "tuple",data:=.seq #[es[i].key,es[i].val]}:=ZL 0;let u2:∀(b:r_)(o:Obj),b≠it->Y1 0=a_ o->(hA.push {cls:=.type "tuple",data:=.seq #[es[i].key,es[i].val]}).get? b=a_ o:=λb o hb e=>y6 _ (kp b o hb e);rw[sz]at gt;let ne:(e_ s)≠it:=YK (zi hI)
 change I_ _ _ _ {s with heap:=hA.push {cls:=.type "tuple",data:=.seq #[es[i].key,es[i].val]} }
 generalize hA.push {cls:=.type "tuple",data:=.seq #[es[i].key,es[i].val]}=hB at ka gt u2;let eA:(Wh ({s with heap:=hA}:q_).heap.objs.size)=.ref (e_ s):=by rw[<-sz]
 simp only[eA];unfold Builtin.Dict_items.ownedTupleIsFree;refine yx (yx (YI (s:={s with heap:=hB}) ka rfl (x:=.none) rfl (yz ?_)));simp only[if_true];refine yx (YI (s:={s with heap:=hB}) ka rfl (x:=ok) rfl (yx (YI (s:={s with heap:=hB}) ka rfl (x:=ov) rfl ?_)));let m7:∀{h1:t_}{fs:Y6 0}{j:Nat}{x:qe}{α:Type}{f:Unit->Sem α}{R:α->q_->Prop}{E':f_ 0},h1.get? it=a_ {cls:=.type "dict_itemiterator",data:=.fields fs}->j<fs.size->
   (∀h2:t_,h2.get? it=a_ {cls:=.type "dict_itemiterator",data:=.fields (fs.setIfInBounds j x)}->(∀(b:r_),b≠it->h2.get? b=h1.get? b)->k_ prog w A.in1 (f ()) R E' {s with heap:=h2})->
   k_ prog w A.in1 (setField (.ref it) j x >>= f) R E' {s with heap:=h1}:=λ{h1 fs j x α f R E'} g hj k=>by
  refine yx (Yd (s:={s with heap:=h1}) g rfl hj ?_);refine k _ ?_ λb hb=>(Wa ..).2 b hb;rw[W1 _ g (Yp (XN rfl _))];simp[Xr]
 refine m7 ka (by simp) λh3 g3 s3=>?_;refine m7 g3 (by simp) λh4 g4 s4=>?_;refine m7 g4 (by simp) λh5 g5 s5=>?_;refine m7 g5 (by simp) λh6 g6 s6=>?_;refine yx (wpAny_letGo (yz (yz ⟨_,rfl,yz (q h6 (by rw[<-sz];change h6.get? it=_;rw[g6];simp) ?_ λb o hb e=>?_)⟩)))
 ·rw[s6 _ ne,s5 _ ne,s4 _ ne,s3 _ ne];show gt
 ·rw[s6 _ hb,s5 _ hb,s4 _ hb,s3 _ hb];show u2 b o hb e
theorem Ki{es:Array Yk}{ok:qe}{Q:y_ qe->q_->Prop}(hh:A.handled=b_)(hI:IsItemIter s.heap it dc i es.size ep ok ov)(h1:Zq 0=a_ oc)(h2:oc.data=.dict es ep)(g9:es.size<=i)(q:∀h',Heap.ExtBut it s.heap h'->Q b_ {s with heap:=h'}):B_ (pyNext (.ref it)) Q E s:=by
 let hT:=lX hI;unfold pyNext;refine yx (Yu (WE (name:=WM "__next__") hT WI (Ws WI hT F.entry_dict_itemiterator_next ?_ (F.args_dict_itemiterator_next_1 _))));refine yx (yz (yx (yx ?_)))
 first|refine yx (Xn hT (yz ?_))|refine yx (XS hT (yz ?_))
 refine yx (YC hI rfl ?_);rw[show Wo "dict_itemiterator" = true by decide];simp only[if_true]
 change I_ (if(Wh dc == zo)=true then _ else _) _ _ s
 rw[if_neg (show ¬ ((Wh dc == zo)=true) from zj)]
 refine yx (yz (yx (WJ h1 h2 ?_)));rw[if_neg (show ¬ _ by simp)];refine yx (yz (yx (Xl h1 h2 ?_)));rw[if_neg (show ¬ _ by simp)];refine yz ?_;simp only[show ¬ ((i:Int)<0) by omega,if_false,Xw,XA g9];refine yx ?_
 first|refine yx (Xn hT (yz ?_))|refine yx (XS hT (yz ?_))
 refine(show I_ (setField (.ref it) 2 .none >>= _) _ _ s from yx (Yd hI rfl (by simp) ?_))
 refine(show I_ (newExc (.type "StopIteration") [] >>= _) _ _ _ from yx ?_);simp only[newExc,newTuple]
 refine yx (We (yx (m:=YD _ _) (wpAny_of_eq (a:=zo) (by first|rfl|(simp only[YD];rfl)) (We ?_ (by size_fits)))) (by size_fits))
 simp only[raiseNew];refine yx (wpAny_handled ?_);rw[show A.in1.handled=b_ from hh]
 refine yx (yz (wpAny_throw ?_));refine yx (wpAny_isInstance (T:="StopIteration") (b:=true) ⟨_,ZL 0,rfl⟩ isSubtype_stop ?_);show yz (q _ (((Wa ..).extBut.push _).push _))
theorem Be:entryFor table "dict_itemiterator.__iter__" = a_ Builtin.«dict_keyiterator.__iter__»:=entryFor_alias (id:="dict_itemiterator.__iter__") (id':="dict_keyiterator.__iter__") (by first|rfl|decide +kernel) (by first|rfl|decide +kernel) (by decide +kernel) (by rfl)
theorem HB{ok:qe}(hI:IsItemIter s.heap it dc i n ep ok ov)(q:Q (.ref it) s):B_ (pyIter (.ref it)) Q E s:=by
 let hT:=lX hI;refine wpAny_pyIter_slot hT F.slot_dict_itemiterator_iter (Ws F.slot_dict_itemiterator_iter hT Be (show I_ (Builtin.«dict_keyiterator.__iter__» _) _ _ _ from ?_) (F.args_dict_itemiterator_iter_1 _))
 unfold Builtin.«dict_keyiterator.__iter__»;refine yx (yz ?_);show yz ⟨_,rfl,"dict_itemiterator",_,hT,WI.lookup,q⟩
theorem FG(dc:r_)(hd:(dc == WL)=false):MeetsIn prog w (Builtin.«dict.items» ⟨[.ref dc],[]⟩) (λ_ R s=>s.TypeIs (.ref dc) "dict" /\
   R (.ok (.ret (.ref (e_ s)))) {s with heap:=s.heap.push {cls:=.type "dict_items",data:=.fields #[.ref dc]} }):=
 .of_wp λA R s ⟨hT,h⟩=>by
  refine yx ?_;unfold Builtin.Dict.noArgs;refine yx (XM hT (show I_ (pure dc) _ _ s from yz (show I_ (Xm dc >>= _) _ _ s from ?_)))
  unfold Xm;rw[if_neg (show ¬ _ from by rw[hd];decide)]
  refine yx (yz (yx (We (yz ⟨_,rfl,h⟩))))
open PySem.SeqAt PySem.W
def eX(b:Bool)(n i:Nat):Nat:=if b then n-1-i else i
def FH(b:Bool)(n:Nat)(p:x_ Nat):x_ Nat:=Y8 (p.map (eX b n))
theorem pZ{α:Type}(b:Bool){l:x_ α}{d:α}(hi:i<l.length):(Y8 l).getD i d=l.getD (eX b l.length i) d:=by
 cases b with
 |false=>rfl
 |true=>
  change l.reverse.getD i d=l.getD (l.length-1-i) d
  rw[WC,WC,List.getElem?_reverse hi]
theorem kM(h:i<n):eX b n i<n:=by unfold eX;split <;> omega
theorem HC{p:x_ Nat}(h:p.Perm (z0 n)):(FH b n p).Perm (z0 n):=by
 cases b with
 |false=>
  let e:FH false n p=p:=by
   change p.map (λi=>eX false n i)=p
   have:(λi=>eX false n i)=id:=by funext i;rfl
   rw[this,List.map_id]
  rw[e];show h
 |true=>
  let e:(z0 n).map (eX true n)=(z0 n).reverse:=by
   apply List.ext_getElem
   ·simp
   ·intro i h1 h2;simp[eX]
  change((p.map (eX true n)).reverse).Perm _
  refine(List.reverse_perm _).trans ((h.map _).trans ?_);rw[e];show List.reverse_perm _
theorem HE{p:x_ Nat}{lt:Nat->Nat->Bool}(h:p.Pairwise (λi j=>lt (eX b n j) (eX b n i)=false)):(FH b n p).Pairwise (λi j=>(if b then lt i j else lt j i)=false):=by
 let h1:(p.map (eX b n)).Pairwise (λi j=>lt j i=false):=Xi.mpr h;cases b with
 |false=>exact h1
 |true=>
  change((p.map (eX true n)).reverse).Pairwise _
  rw[List.pairwise_reverse];show h1
theorem Kj{vs:ZE 0}{p:x_ Nat}(h:∀i∈p,i<vs.length):Y8 (p.map λi=>(Y8 vs).getD i zo)=(FH b vs.length p).map λi=>ZC 0:=by
 let e:(p.map λi=>(Y8 vs).getD i zo)=(p.map (eX b vs.length)).map λi=>ZC 0:=by rw[Wp];show WW λi hi=>pZ b (h i hi)
 rw[e];unfold FH katRev;split
 ·rw[List.map_reverse]
 ·rfl
theorem HF{α:Type}(b:Bool)(l:x_ α):Y8 (Y8 l)=l:=by unfold katRev;split <;> simp
theorem range_getD(vs:ZE 0):((z0 vs.length).map λi=>ZC 0)=vs:=by
 apply Xt;intro i;by_cases hi:i<vs.length
 ·simp[hi]
 ·simp[hi]
variable{e1:Nat}{kS:r_}{out:ZE 0}
section
variable{vs ks:ZE 0}
theorem Qw{st:SortSt}{e:Nat}{P:PySem.Fin->q_->Prop}(f6:(arrOf st).map (·.2)=out.toArray)(hz:out.length<64)(hkz:ks.length<64)(hf:failedOf st=b_)(jl:kS≠a)(gk:s.heap.get? kS=a_ (seqObj "list" ks.toArray e))(ga:s.heap.get? a=a_ (seqObj "list" #[] e1))(h:∀(h':t_)(c:Nat),(∀x o,x≠a->x≠kS->s.heap.get? x=a_ o->h'.get? x=a_ o)->h'.get? a=a_ (seqObj "list" (Y8 out).toArray c)->(∃o,h'.get? kS=a_ o)->P (.done (.ret .none)) {s with heap:=h'}):
  B_ (ksk_tail a b e1 (.ref kS) st) P E s:=by
 let w1:=Wa s.heap kS (Wg λ_=>(#[]:Y6 0));obtain⟨ck,hck⟩:∃ck,(s.heap.update kS (Wg λ_=>(#[]:Y6 0))).get? kS=a_ (seqObj "list" #[] ck):=⟨_,Yo gk λ_=>#[]⟩;let qx:=(w1.2 a jl.symm).trans ga;let w2:=Wa (s.heap.update kS (Wg λ_=>(#[]:Y6 0))) a (Wg λ_=>(Y8 out).toArray);obtain⟨c2,bu⟩:∃c2,((s.heap.update kS (Wg λ_=>(#[]:Y6 0))).update a (Wg λ_=>(Y8 out).toArray)).get? a=a_ (seqObj "list" (Y8 out).toArray c2):=⟨_,Yo qx λ_=>(Y8 out).toArray⟩;let hsz:(Y8 out).toArray.size=out.length:=by rw[zb,kat_len]
 unfold ksk_tail
 try dsimp only
 rw[f6,kat_outs];refine yx (XJ gk rfl ?_ (by rw[zb,Wm];omega) (z8 _));refine yx (wpAny_letGo (yx (seqEpoch_at qx rfl ?_)));refine yx (XJ qx rfl ?_ (z8 _) (Wu (Nat.le_of_eq hsz) (by rw[Wm];omega)));rw[hf];simp only[bne_self_eq_false,Ww,if_false];show yz (h _ c2 (λx o h1 h2 q=>(w2.2 x h1).trans ((w1.2 x h2).trans q)) bu ⟨_,(w2.2 kS jl).trans hck⟩)
theorem Vo{e:Nat}{P:PySem.Fin->q_->Prop}(lt:Nat->Nat->Bool)(hl:ks.length=vs.length)(h64:vs.length<64)(jl:kS≠a)(tr:∀i j k,i<vs.length->j<vs.length->k<vs.length->lt j i=false->lt k j=false->lt k i=false)(as:∀i j,i<vs.length->j<vs.length->lt i j=true->lt j i=false)(gk:s.heap.get? kS=a_ (seqObj "list" ks.toArray e))(ga:s.heap.get? a=a_ (seqObj "list" #[] e1))(hk:2<=vs.length->∀(Q:jn SortKind) E',Q κ s->B_ (keyKind' ks.toArray) Q E' s)(ai:∀i j,i<vs.length->j<vs.length->∀Q:jn Bool,Q (lt i j) s->B_ (keyLt' κ (ks.getD i zo) (ks.getD j zo)) Q (λ_ _=>False) s)(h:∀(p:x_ Nat)(h':t_)(c:Nat),p.Perm (z0 vs.length)->p.Pairwise (λi j=>(if b then lt i j else lt j i)=false)->(∀x o,x≠a->x≠kS->s.heap.get? x=a_ o->h'.get? x=a_ o)->
   h'.get? a=a_ (seqObj "list" (p.map λi=>ZC 0).toArray c)->(∃o,h'.get? kS=a_ o)->P (.done (.ret .none)) {s with heap:=h'}):
  B_ (ksk_end a b vs.toArray e1 (.ref kS) ks.toArray) P E s:=by
 have skip:∀t:Sem PySem.Fin,B_ t P E s->B_ (if b=true then(do let _ <-rule "list.sort.reverse";t) else t) P E s:=λt ht=>by
  split
  ·exact yx (YN ht)
  ·exact ht
 have kr:(Y8 ks).length=(Y8 vs).length:=by rw[kat_len,kat_len,hl]
 unfold ksk_end
 try dsimp only
 refine skip _ ?_
 rw[kat_pairs b hl]
 by_cases h2:vs.toArray.size<2
 ·rw[if_pos h2,if_pos h2]
  rw[zb]at h2
  refine yx (yz ?_)
  rw[StateT.run_pure]
  refine yx (yz ?_)
  try dsimp only
  refine Qw (st:=SortSt.mk' general' ((Y8 ks).toArray.zip (Y8 vs).toArray) #[] 7 b_) (out:=Y8 vs) (ks:=ks) ?_ (by rw[kat_len];exact h64) ⋯ rfl jl gk ga λh' c k1 k2 k3=>?_
  ·show((Y8 ks).toArray.zip (Y8 vs).toArray).map (·.2)=(Y8 vs).toArray
   apply Array.toList_inj.mp
   rw[Array.toList_map,ksk_zip]
   show(List.zip _ _).map Prod.snd=_
   rw[List.map_snd_zip (by rw[kr];exact zd _)]
  ·rw[HF]at k2
   refine h (z0 vs.length) h' c (List.Perm.refl _) ?_ k1 (by rw[range_getD];exact k2) k3
   rw[XR]
   intro i j hi hj ay
   simp only[Xv]at hi hj
   omega
 ·rw[if_neg h2,if_neg h2]
  rw[zb]at h2
  refine yx (hk ⋯ _ _ ?_)
  have rj:(kas_sort (Y8 vs).length).kasWp (kas_ask prog w A κ (Y8 ks)) (λp cx=>p=evT (λi j=>lt (ZP i) (ZP j)) (kas_sort vs.length)/\cx=s) s:=by
   rw[kat_len]
   refine Ba (n:=vs.length) (lt:=λi j=>lt (ZP i) (ZP j)) (λi j C hi hj hC=>?_) (B9 ⋯) ⟨rfl,rfl⟩
   show B_ (keyLt' κ ((Y8 ks).getD i zo) ((Y8 ks).getD j zo)) C (λ_ _=>False) s
   rw[pZ b ⋯,pZ b ⋯,hl]
   exact ai _ _ (kM hi) (kM hj) C hC
  refine yx (Xg (kat_run (ks:=Y8 ks) (vs:=Y8 vs) (E:=E) (Q:=λbf s'=>s'=s/\arrOf bf=(evT (λi j=>lt (ZP i) (ZP j)) (kas_sort vs.length)).map (kas_item ((Y8 ks).toArray.zip (Y8 vs).toArray))/\failedOf bf=b_)
   kr (by rw[kat_len];omega) (by rw[kat_len];exact h64) (λp bf s' _ a2 a3 a4=>⟨a4.2,by rw[a2,a4.1],a3⟩) rj) ?_ λ_ _ x=>x)
  rintro⟨⟨⟩,bf⟩ s' ⟨rfl,har,hf⟩
  try dsimp only
  let⟨c1,c2⟩:=FC (n:=vs.length) (lt:=λi j=>lt (ZP i) (ZP j)) (λi j k hi hj hk=>tr _ _ _ (kM hi) (kM hj) (kM hk)) (λi j hi hj=>as _ _ (kM hi) (kM hj)) ⋯
  have bt:∀i∈(evT (λi j=>lt (ZP i) (ZP j)) (kas_sort vs.length)).toList,i<vs.length:=λi hi=>by simpa using c1.mem_iff.mp hi
  refine Qw (ks:=ks) (kat_snds kr har) (by rw[za,c1.length_eq,Xv];exact h64) ⋯ hf jl gk ga λh' c k1 k2 k3=>?_
  rw[Kj bt]at k2
  exact h _ h' c (HC c1) (HE c2) k1 k2 k3
theorem HG{f:qe}{P:PySem.Fin->q_->Prop}(ho:s.heap.get? a=a_ (seqObj "list" vs.toArray n))(h64:vs.length<64)(J:r_->Nat->ZE 0->Nat->q_->Prop)(h0:∀(kS e1:Nat)(h':t_),(∀x o,x≠a->s.heap.get? x=a_ o->h'.get? x=a_ o)->(e_ s)<=kS->h'.get? a=a_ (seqObj "list" #[] e1)->h'.get? kS=a_ (seqObj "list" #[] 0)->J kS e1 [] 0 {s with heap:=h'})(cp:∀kS e1 ks e s',J kS e1 ks e s'->kS≠a/\s'.heap.get? a=a_ (seqObj "list" #[] e1)/\s'.heap.get? kS=a_ (seqObj "list" ks.toArray e))(turn:∀kS e1 ks e s' x,vs[ks.length]?=a_ x->J kS e1 ks e s'->B_ (call f [x]) (λv cx=>cx.heap.get? kS=a_ (seqObj "list" ks.toArray e)/\∀(h':t_) e',WX kS cx.heap h'->h'.get? kS=a_ (seqObj "list" (ks++[v]).toArray e')->J kS e1 (ks++[v]) e' { cx with heap:=h'}) (λ_ _=>False) s')(fin:∀kS e1 ks e s',ks.length=vs.length->J kS e1 ks e s'->∃lt:Nat->Nat->Bool,(∀i j k,i<vs.length->j<vs.length->k<vs.length->lt j i=false->lt k j=false->lt k i=false)/\(∀i j,i<vs.length->j<vs.length->lt i j=true->lt j i=false)/\
   (2<=vs.length->∀(Q:jn SortKind) E',Q κ s'->B_ (keyKind' ks.toArray) Q E' s')/\
   (∀i j,i<vs.length->j<vs.length->∀Q:jn Bool,Q (lt i j) s'->B_ (keyLt' κ (ks.getD i zo) (ks.getD j zo)) Q (λ_ _=>False) s')/\
   ∀(p:x_ Nat)(h':t_)(c:Nat),p.Perm (z0 vs.length)->p.Pairwise (λi j=>(if b then lt i j else lt j i)=false)->(∀x o,x≠a->x≠kS->s'.heap.get? x=a_ o->h'.get? x=a_ o)->
   h'.get? a=a_ (seqObj "list" (p.map λi=>ZC 0).toArray c)->(∃o,h'.get? kS=a_ o)->P (.done (.ret .none)) { s' with heap:=h'}):
  B_ (ksk_tree a f b) P E s:=by
 let ha:a<(e_ s):=zi ho;let w1:=Wa s.heap a (Wg λ_=>(#[]:Y6 0));obtain⟨e1,c7⟩:∃e1,(V_ (Wg λ_=>(#[]:Y6 0))).get? a=a_ (seqObj "list" #[] e1):=⟨_,Yo ho λ_=>#[]⟩;unfold ksk_tree;refine yx (listItems_at ho rfl (yx (XJ ho rfl ?_ (by rw[zb,Wm];omega) (z8 _))));refine yx (seqEpoch_at c7 rfl (yx (wpAny_newTuple ?_ (by change vs.length<=_;rw[Wm];omega))));refine yx (wpAny_newList (WV ?_) (z8 _));let yr:((V_ (Wg λ_=>(#[]:Y6 0))).push (seqObj "tuple" vs.toArray 0)).objs.size=(e_ s)+1:=by rw[size_push',YF]
 let J0:=h0 ((V_ (Wg λ_=>(#[]:Y6 0))).push (seqObj "tuple" vs.toArray 0)).objs.size e1 (((V_ (Wg λ_=>(#[]:Y6 0))).push (seqObj "tuple" vs.toArray 0)).push (seqObj "list" #[] 0))
  (λx o hx q=>y6 _ (y6 _ ((w1.2 x hx).trans q))) (by rw[yr];show Nat.le_succ _) (y6 _ (y6 _ c7)) (ZL 0)
 change B_ (ksk_rest a f b vs.toArray e1 (.ref ((V_ (Wg λ_=>(#[]:Y6 0))).push (seqObj "tuple" vs.toArray 0)).objs.size)) P E {s with heap:=((V_ (Wg λ_=>(#[]:Y6 0))).push (seqObj "tuple" vs.toArray 0)).push (seqObj "list" #[] 0)}
 generalize ((V_ (Wg λ_=>(#[]:Y6 0))).push (seqObj "tuple" vs.toArray 0)).objs.size=kS at J0
 revert J0
 generalize ({s with heap:=((V_ (Wg λ_=>(#[]:Y6 0))).push (seqObj "tuple" vs.toArray 0)).push (seqObj "list" #[] 0)}:q_)=s0;intro J0;unfold ksk_rest;refine yx (YN ?_)
 first
  |rw[List.forIn_toArray]
  |(rw[<-Array.forIn_toList];simp only[List.toList_toArray])
 refine yx (ksk_fold (λi s'=>∃ks e,ks.length=i/\J kS e1 ks e s') vs 0 s0 ⟨[],0,rfl,J0⟩ ?step ?done)
 case step=>
  rintro j x s' hx ⟨ks,e,hl,hJ⟩;let hj:j<vs.length:=(yy.mp hx).1;let dg:ks.length=j:=⋯;refine yx (Yu (Xg (turn kS e1 ks e s' x (by rw[dg];show hx) hJ) (λv cx q=>?_) λ_ _ z=>z.elim));let⟨gk,ng⟩:=q
  try dsimp only
  let w2:=Wa cx.heap kS (Wg (·.push v));obtain⟨c2,bu⟩:∃c2,(cx.heap.update kS (Wg (·.push v))).get? kS=a_ (seqObj "list" (ks.toArray.push v) c2):=⟨_,Yo gk (·.push v)⟩;refine yx (XJ gk rfl ?_ (by rw[zb,Wm];omega) (Wu (Nat.le_of_eq (Array.size_push ..)) (by rw[zb,Wm];omega)));refine yz ⟨rfl,ks++[v],c2,by simp;omega,ng _ c2 w2 ?_⟩;rw[bu];simp
 case done=>
  rintro s' ⟨ks,e,hl,hJ⟩;let dg:ks.length=vs.length:=⋯;let⟨jl,ga,gk⟩:=cp kS e1 ks e s' hJ;let⟨lt,tr,as,hk,ai,h⟩:=fin kS e1 ks e s' dg hJ
  try dsimp only
  refine yx (listItems_at gk rfl ?_);show Vo (κ:=κ) lt dg h64 jl tr as gk ga hk ai h
end
open PySem.SeqAt
inductive PV where
 |non|bl (b:Bool)|int (i:Int)|str (x:Str)|tup (xs:x_ PV)|ref (n:Nat)|ty (n:String)|fl (xs:x_ PV)
mutual
def PV.beq:PV->PV->Bool
 |.non,.non=>true
 |.bl a,.bl b=>a == b
 |.int a,.int b=>a == b
 |.str a,.str b=>a == b
 |.tup a,.tup b=>PV.beqs a b
 |.ref a,.ref b=>a == b
 |.ty a,.ty b=>a == b
 |.fl a,.fl b=>PV.beqs a b
 |_,_=>false
def PV.beqs:Y9 0->Y9 0->Bool
 |[],[]=>true
 |x::xs,y::ys=>PV.beq x y&&PV.beqs xs ys
 |_,_=>false
end
mutual
theorem PV.beq_self:∀x:PV,PV.beq x x=true
 |.non=>rfl
 |.bl a=>by simp[PV.beq]
 |.int a=>by simp[PV.beq]
 |.str a=>by simp[PV.beq]
 |.tup a=>by simp only[PV.beq];show PV.beqs_self a
 |.ref a=>by simp[PV.beq]
 |.ty a=>by simp[PV.beq]
 |.fl a=>by simp only[PV.beq];show PV.beqs_self a
theorem PV.beqs_self:∀x:Y9 0,PV.beqs x x=true
 |[]=>rfl
 |x::xs=>by simp only[PV.beqs,PV.beq_self x,PV.beqs_self xs,Bool.and_self]
end
mutual
theorem PV.beq_eq:∀{x y:PV},PV.beq x y=true->x=y
 |.non,y,h=>by cases y <;> first|rfl|(simp[PV.beq]at h)
 |.bl a,y,h=>by cases y <;> first|(simp[PV.beq]at h;rw[h])|(simp[PV.beq]at h)
 |.int a,y,h=>by cases y <;> first|(simp[PV.beq]at h;rw[h])|(simp[PV.beq]at h)
 |.str a,y,h=>by cases y <;> first|(simp[PV.beq]at h;rw[h])|(simp[PV.beq]at h)
 |.tup a,y,h=>by
  cases y with
  |tup b=>simp only[PV.beq]at h;rw[PV.beqs_eq h]
  |_=>simp[PV.beq]at h
 |.ref a,y,h=>by cases y <;> first|(simp[PV.beq]at h;rw[h])|(simp[PV.beq]at h)
 |.ty a,y,h=>by cases y <;> first|(simp[PV.beq]at h;rw[h])|(simp[PV.beq]at h)
 |.fl a,y,h=>by
  cases y with
  |fl b=>simp only[PV.beq]at h;rw[PV.beqs_eq h]
  |_=>simp[PV.beq]at h
theorem PV.beqs_eq:∀{x y:Y9 0},PV.beqs x y=true->x=y
 |[],y,h=>by cases y <;> first|rfl|(simp[PV.beqs]at h)
 |x::xs,y,h=>by
  cases y with
  |nil=>simp[PV.beqs]at h
  |cons y ys=>simp only[PV.beqs,zp]at h;rw[PV.beq_eq h.1,PV.beqs_eq h.2]
end
instance:DecidableEq PV:=λx y=>match h:PV.beq x y with
 |true=>isTrue (PV.beq_eq h)
 |false=>isFalse λe=>by rw[e,PV.beq_self]at h;cases h
def PV.ky:Nat->PV->Bool
 |_,.int _=>true
 |_,.str _=>true
 |n+1,.tup xs=>xs.all (PV.ky n)
 |_,_=>false
section
variable(w:u_)
mutual
def hsh:PV->Int
 |.int i=>QO w (.inl i)
 |.str x=>QO w (.inr x)
 |.tup xs=>reduceHash (WK (A5 xs))
 |_=>0
def A5:Y9 0->x_ Int
 |[]=>[]
 |x::xs=>hsh x::A5 xs
end
end
mutual
def drw:PV->Nat
 |.tup xs=>FI xs+1
 |_=>1
def FI:Y9 0->Nat
 |[]=>0
 |x::xs=>drw x+FI xs
end
mutual
def HR(h:t_):PV->qe->Prop
 |.int i,v=>∃t,v=.int i t
 |.str x,v=>∃t,v=.str x t
 |.tup ps,v=>∃a its,v=.ref a/\IsTup h a its.toArray/\HRs h ps its
 |_,_=>False
def HRs(h:t_):Y9 0->ZE 0->Prop
 |[],[]=>True
 |p::ps,v::vs=>HR h p v/\HRs h ps vs
 |[],_::_=>False
 |_::_,[]=>False
end
theorem HRs.length{h:t_}:∀{ps:Y9 0}{vs:ZE 0},HRs h ps vs->ps.length=vs.length
 |[],[],_=>rfl
 |_::_,_::_,r=>congrArg (·+1) (HRs.length r.2)
 |[],_::_,r=>r.elim
 |_::_,[],r=>r.elim
theorem HRs.at{h:t_}:∀{ps:Y9 0}{vs:ZE 0}{j:Nat}{p:PV},HRs h ps vs->ps[j]?=a_ p->∃v,vs[j]?=a_ v/\HR h p v
 |[],[],_,_,_,e=>by simp at e
 |q::_,v::_,0,p,r,e=>by
  have:q=p:=by simpa using e
  subst this;show⟨v,rfl,r.1⟩
 |_::ps,_::vs,j+1,p,r,e=>by
  let⟨v,h1,h2⟩:=HRs.at (ps:=ps) (vs:=vs) (j:=j) (p:=p) r.2 (ke e);show⟨v,ke h1,h2⟩
 |[],_::_,_,_,r,_=>r.elim
 |_::_,[],_,_,r,_=>r.elim
theorem Kk{h:t_}{x y:Y6 0}(p:IsTup h a x)(q:IsTup h a y):x=y:=by let⟨o,ho,_,n,hd⟩:=p;let⟨o',br,_,n',bq⟩:=q;obtain rfl:o=o':=zl (ho.symm.trans br);rw[hd]at bq;injection bq
mutual
theorem HR.one{h:t_}:∀{p q:PV}{v:qe},HR h p v->HR h q v->p=q
 |.int i,q,v,r,r'=>by
  let⟨t,rfl⟩:=r;cases q with
  |int j=>let⟨t',e⟩:=r';injection e with e;rw[e]
  |str j=>let⟨t',e⟩:=r';cases e
  |tup j=>let⟨_,_,e,_⟩:=r';cases e
  |_=>exact r'.elim
 |.str i,q,v,r,r'=>by
  let⟨t,rfl⟩:=r;cases q with
  |int j=>let⟨t',e⟩:=r';cases e
  |str j=>let⟨t',e⟩:=r';injection e with e;rw[e]
  |tup j=>let⟨_,_,e,_⟩:=r';cases e
  |_=>exact r'.elim
 |.tup ps,q,v,r,r'=>by
  let⟨a,its,rfl,p,rs⟩:=r;cases q with
  |int j=>let⟨t',e⟩:=r';cases e
  |str j=>let⟨t',e⟩:=r';cases e
  |tup qs=>
   let⟨b,its',e,p',cw⟩:=r';cases e
   have:its=its':=by simpa using congrArg Array.toList (Kk p p')
   subst this;rw[HRs.one rs cw]
  |_=>exact r'.elim
 |.non,_,_,r,_=>r.elim
 |.bl _,_,_,r,_=>r.elim
 |.ref _,_,_,r,_=>r.elim
 |.ty _,_,_,r,_=>r.elim
 |.fl _,_,_,r,_=>r.elim
theorem HRs.one{h:t_}:∀{ps qs:Y9 0}{vs:ZE 0},HRs h ps vs->HRs h qs vs->ps=qs
 |[],[],[],_,_=>rfl
 |p::ps,q::qs,v::vs,r,r'=>by rw[HR.one r.1 r'.1,HRs.one r.2 r'.2]
 |[],_::_,[],_,r=>r.elim
 |[],_,_::_,r,_=>r.elim
 |_::_,_,[],r,_=>r.elim
 |_::_,[],_::_,_,r=>r.elim
end
theorem HH{h:t_}{d:r_}{o:Obj}{es ep}{x:Y6 0}(p:IsTup h a x)(ho:h.get? d=a_ o)(hd:o.data=.dict es ep)(hs:WX d h h'):IsTup h' a x:=by
 let⟨q,hq,hc,n,gg⟩:=p;let ne:a≠d:=by rintro rfl;obtain rfl:q=o:=zl (hq.symm.trans ho);rw[hd]at gg;cases gg
 show⟨q,(hs.2 a ne).trans hq,hc,n,gg⟩
mutual
theorem HR.keep{h h':t_}(k:∀a x,IsTup h a x->IsTup h' a x):∀{p:PV}{v:qe},HR h p v->HR h' p v
 |.int i,v,r=>r
 |.str i,v,r=>r
 |.tup ps,v,⟨a,its,e,p,rs⟩=>⟨a,its,e,k _ _ p,HRs.keep k rs⟩
 |.non,_,r=>r.elim
 |.bl _,_,r=>r.elim
 |.ref _,_,r=>r.elim
 |.ty _,_,r=>r.elim
 |.fl _,_,r=>r.elim
theorem HRs.keep{h h':t_}(k:∀a x,IsTup h a x->IsTup h' a x):∀{ps:Y9 0}{vs:ZE 0},HRs h ps vs->HRs h' ps vs
 |[],[],_=>trivial
 |_::_,_::_,r=>⟨HR.keep k r.1,HRs.keep k r.2⟩
 |[],_::_,r=>r.elim
 |_::_,[],r=>r.elim
end
theorem M3:∀(n:Nat){A:td}{E:f_ 0}{s:q_}{p:PV}{v:qe}{Q:jn Int},p.ky n=true->A.units+n<cLine->Z3 p v->Q (hsh w p) { s with toks:=s.toks+drw p}->
  B_ (pyHash v) Q E s:=by
 intro n
 induction n with
 |zero=>
  intro A E s p v Q hk hu r h;cases p with
  |int i=>let⟨t,rfl⟩:=r;show wpAny_pyHash_int h
  |str i=>let⟨t,rfl⟩:=r;show wpAny_pyHash_str h
  |_=>cases hk
 |succ n ih=>
  intro A E s p v Q hk hu r h;cases p with
  |int i=>let⟨t,rfl⟩:=r;show wpAny_pyHash_int h
  |str i=>let⟨t,rfl⟩:=r;show wpAny_pyHash_str h
  |tup ps=>
   let⟨a,its,rfl,⟨o,ho,hc,m,hd⟩,rs⟩:=r;let jq:∀q∈ps,q.ky n=true:=zk.mp hk;let hT:s.TypeIs (.ref a) "tuple" := ⟨o,ho,hc⟩;unfold pyHash;unfold pyHashByItsType;refine yx (wpAny_cRoomFor_or (.inr (show A.units<cLine by omega)) (yx (wpAny_specialOf hT F.slot_tuple_hash.lookup ?_)))
   change I_ (if((a_ (Value.builtin "tuple.__hash__"):y_ qe) == a_ zo)=true then _ else _) Q E s
   rw[if_neg (show ¬ _ from by rw[beq_builtin_none];decide)]
   refine yx (wpAny_specialOf hT F.slot_tuple_hash.lookup (show I_ (callSpecialIfBoundUnlessNone? (.ref a) "__hash__" _ >>= _) Q E s from ?_))
   refine yx (wpAny_callSpecialIfBoundUnlessNone?_slot hT F.slot_tuple_hash (Ws F.slot_tuple_hash hT F.entry_tuple_hash (show I_ (Yv (.ref a) >>= _) _ _ s from ?_) (F.args_tuple_hash_1 _)))
   refine yx (wpAny_tupleItemsOf ho hd (yx ?_));rw[<-Array.forIn_toList];refine wpAny_forIn_list _ (λrest (b:Array Int) s'=>∃left,HRs s.heap left rest/\(∀q∈left,q.ky n=true)/\b.toList++A5 w left=A5 w ps/\s'.heap=s.heap/\s'={ s with toks:=s'.toks}/\s'.toks+FI left=s.toks+FI ps) _ ?turn ?stop _ _ ⟨ps,rs,jq,rfl,rfl,rfl,rfl⟩
   case turn=>
    rintro x rest b s' ⟨left,rl,kl,eb,eh,es,et⟩;cases left with
    |nil=>exact rl.elim
    |cons q left=>
     let r1:HR s'.heap q x:=by rw[eh];show rl.1
     refine yx (ih (kl q y8) (show A.units+1+n<cLine by omega) r1 (yz ?_));refine⟨left,rl.2,λz hz=>kl z (y9 _ hz),?_,eh,?_,?_⟩
     ·rw[<-eb];simp[A5]
     ·rw[es]
     ·rw[<-et]
      change s'.toks+drw q+FI left=s'.toks+(drw q+FI left)
      omega
   case stop=>
    rintro b s' ⟨left,rl,kl,eb,eh,es,et⟩;cases left with
    |cons q left=>exact rl.elim
    |nil=>
     let xn:b.toList=A5 w ps:=by rw[<-eb];simp[A5]
     let vf:s'.toks=s.toks+FI ps:=et
     change I_ (retInt (WK b.toList)) _ _ _
     rw[xn,es];refine wpAny_ret_mkInt ?_
     change I_ (if(decide (-(2:Int) ^ 63<=WK (A5 w ps))&&decide (WK (A5 w ps)<2 ^ 63))=true then _ else _) Q E _
     let h':Q (reduceHash (WK (A5 w ps))) { s with toks:=s.toks+(FI ps+1)}:=h;unfold reduceHash at h';rw[vf];by_cases hr:(decide (-(2:Int) ^ 63<=WK (A5 w ps))&&decide (WK (A5 w ps)<2 ^ 63))=true
     ·rw[if_pos hr]at h'⊢;show yz (by simpa[Nat.add_assoc] using h')
     ·rw[if_neg hr]at h'⊢;show yx (YN (yz (by simpa[Nat.add_assoc] using h')))
  |_=>cases hk
theorem RU:∀(n:Nat){A:td}{s:q_}{p q:PV}{v u:qe},p.ky n=true->q.ky n=true->A.units+n<cLine->Z3 p v->Z3 q u->RcAt A s v u (decide (p=q)):=by
 intro n
 induction n with
 |zero=>
  intro A s p q v u hp hq hu r r';cases p with
  |int i=>
   let⟨t,rfl⟩:=r;cases q with
   |int j=>let⟨t',rfl⟩:=r';have:=RcAt.int_int (A:=A) (s:=s) i t j t';rwa[show decide (PV.int i=PV.int j)=(i == j) by simp[Yq]]
   |str j=>let⟨t',rfl⟩:=r';show RcAt.int_str i t j t'
   |_=>cases hq
  |str i=>
   let⟨t,rfl⟩:=r;cases q with
   |int j=>let⟨t',rfl⟩:=r';show RcAt.str_int i t j t'
   |str j=>let⟨t',rfl⟩:=r';have:=RcAt.str_str (A:=A) (s:=s) i t j t';rwa[show decide (PV.str i=PV.str j)=(i == j) by simp[Yq]]
   |_=>cases hq
  |_=>cases hp
 |succ n ih=>
  intro A s p q v u hp hq hu r r';cases p with
  |int i=>
   let⟨t,rfl⟩:=r;cases q with
   |int j=>let⟨t',rfl⟩:=r';have:=RcAt.int_int (A:=A) (s:=s) i t j t';rwa[show decide (PV.int i=PV.int j)=(i == j) by simp[Yq]]
   |str j=>let⟨t',rfl⟩:=r';show RcAt.int_str i t j t'
   |tup js=>let⟨b,its,rfl,p',_⟩:=r';show RcAt.int_tuple i t p' ⋯
   |_=>cases hq
  |str i=>
   let⟨t,rfl⟩:=r;cases q with
   |int j=>let⟨t',rfl⟩:=r';show RcAt.str_int i t j t'
   |str j=>let⟨t',rfl⟩:=r';have:=RcAt.str_str (A:=A) (s:=s) i t j t';rwa[show decide (PV.str i=PV.str j)=(i == j) by simp[Yq]]
   |tup js=>let⟨b,its,rfl,p',_⟩:=r';show RcAt.str_tuple i t p' ⋯
   |_=>cases hq
  |tup ps=>
   let⟨a,its,rfl,ta,rs⟩:=r;cases q with
   |int j=>let⟨t',rfl⟩:=r';show RcAt.tuple_int j t' ta ⋯
   |str j=>let⟨t',rfl⟩:=r';show RcAt.tuple_str j t' ta ⋯
   |tup qs=>
    let⟨b,its',rfl,tb,cw⟩:=r';let kp:∀z∈ps,z.ky n=true:=zk.mp hp;let kq:∀z∈qs,z.ky n=true:=zk.mp hq;let l1:=rs.length;let l2:=cw.length;let key:=RcAt.tuples (A:=A) (e:=λj=>match ps[j]?,qs[j]? with|some x,a_ y=>decide (x=y)|_,_=>false) ta tb ⋯ (λj h1 h2=>by
     let di:j<ps.length:=by simp at h1;omega
     let cz:j<qs.length:=by simp at h2;omega
     let g1:ps[j]?=a_ ps[j]:=by simp[di]
     let g2:qs[j]?=a_ qs[j]:=by simp[cz]
     let⟨xu,gw,cj⟩:=rs.at g1;let⟨yu,fv,bh⟩:=cw.at g2;let e1:its.toArray[j]=xu:=by simpa using(yy.mp gw).2
     let e2:its'.toArray[j]=yu:=by simpa using(yy.mp fv).2
     rw[e1,e2];simp only[g1,g2];refine iP (ih (kp _ (Xd di)) (kq _ (Xd cz)) (show A.units+1+n<cLine by omega) cj bh) (λev=>?_) (λf t e=>?_)
     ·subst ev;rw[HR.one cj bh];show decide_eq_true rfl
     ·subst e;generalize ps[j]=z at cj;cases z with
      |int i=>let⟨_,e⟩:=cj;cases e
      |str i=>let⟨_,e⟩:=cj;cases e
      |tup i=>let⟨_,_,e,_⟩:=cj;cases e
      |_=>exact cj.elim)
    let sz:((z0 (min its.toArray.size its'.toArray.size)).all (λj=>match ps[j]?,qs[j]? with|some x,a_ y=>decide (x=y)|_,_=>false)&&its.toArray.size == its'.toArray.size)=decide (PV.tup ps=PV.tup qs):=by
     let a1:its.toArray.size=ps.length:=by simp;omega
     let a2:its'.toArray.size=qs.length:=by simp;omega
     rw[a1,a2,X2];simp only[zp,zk,List.mem_range,beq_iff_eq,decide_eq_true_eq,PV.tup.injEq];constructor
     ·rintro⟨hall,hlen⟩;apply List.ext_getElem hlen;intro i hi ak;have:=hall i ⋯;simpa[hi,ak] using this
     ·rintro rfl;refine⟨λx hx=>?_,rfl⟩;have:x<ps.length:=⋯;simp[this]
    rw[<-sz];show key
   |_=>cases hq
  |_=>cases hp
variable{p:PV}
theorem HR.noflt{h:t_}{v:qe}(r:HR h p v):∀f t,v≠.float f t:=λf t e=>by
 subst e;cases p with
 |int i=>let⟨_,e⟩:=r;cases e
 |str i=>let⟨_,e⟩:=r;cases e
 |tup i=>let⟨_,_,e,_⟩:=r;cases e
 |_=>exact r.elim
theorem HJ{q:PV}{v:qe}(hp:p.ky n=true)(hq:q.ky n=true)(hu:A.units+n<cLine)(r:Z3 p v)(r':Z3 q u):EqAt A s v u (decide (p=q)):=iP (RU n hp hq hu r r') (λev=>by subst ev;rw[HR.one r r'];show decide_eq_true rfl) r.noflt
theorem Kl:∀(n m:Nat){A:td}{E:f_ 0}{s:q_}{p:PV}{v:qe}{Q:jn Bool},p.ky n=true->n<=m->Z3 p v->Q true s->B_ (eqIsQuiet m v) Q E s:=by
 intro n
 induction n with
 |zero=>
  intro m A E s p v Q hk hm r h;cases p with
  |int i=>let⟨t,rfl⟩:=r;rw[eqIsQuiet_byValue _ rfl];show yz h
  |str i=>let⟨t,rfl⟩:=r;rw[eqIsQuiet_byValue _ rfl];show yz h
  |_=>cases hk
 |succ n ih=>
  intro m A E s p v Q hk hm r h;cases p with
  |int i=>let⟨t,rfl⟩:=r;rw[eqIsQuiet_byValue _ rfl];show yz h
  |str i=>let⟨t,rfl⟩:=r;rw[eqIsQuiet_byValue _ rfl];show yz h
  |tup ps=>
   let⟨a,its,rfl,⟨o,ho,hc,m',hd⟩,rs⟩:=r;let jq:∀q∈ps,q.ky n=true:=zk.mp hk;let hT:s.TypeIs (.ref a) "tuple" := ⟨o,ho,hc⟩;obtain⟨m,rfl⟩:∃j,m=j+1:=⟨m-1,⋯⟩;unfold eqIsQuiet;refine yx (wpAny_specialOf hT F.slot_tuple_eq.lookup (show I_ (isInstance (.ref a) (.type "tuple") >>= _) _ _ s from ?_))
   refine yx (wpAny_isInstance hT isSubtype_tuple_tuple ?_);simp only[Bool.not_true,Ww,if_false];refine yx (wpAny_seqItems ho hd (yx (show I_ (forIn its.toArray _ _) _ _ s from ?_)));rw[<-Array.forIn_toList]
   refine wpAny_forIn_list _ (λrest r s'=>r.1=b_/\s'=s/\∃left,HRs s.heap left rest/\∀q∈left,q.ky n=true) _ ?_ ?_ _ _ ⟨rfl,rfl,ps,rs,jq⟩
   ·rintro v rest r s' ⟨hr,rfl,left,rl,kl⟩;cases left with
    |nil=>exact rl.elim
    |cons q left=>refine yx (ih m (kl q y8) ⋯ rl.1 ?_);simp only[Bool.not_true,Ww,if_false];show yz ⟨rfl,rfl,left,rl.2,λz hz=>kl z (y9 _ hz)⟩
   ·rintro⟨r1,r2⟩ s' ⟨hr,rfl,_⟩;simp only at hr;subst hr;show yz h
  |_=>cases hk
def zM(prog:ve)(w:u_):HeapKind prog w PV where
 is:=λh p a=>p.ky 6=true/\HR h p (.ref a)
 hash:=hsh w
 draws:=drw
 room:=λA=>A.units+6<cLine
 inj:=λx y=>HR.one x.2 y.2
 keeps:=λx ho hd hs=>⟨x.1,HR.keep (λa it p=>HH p ho hd hs) x.2⟩
 pyHash:=λhu x h=>M3 6 x.1 hu x.2 h
 eqBool:=λhu x y h=>HJ x.1 y.1 hu x.2 y.2 _ _ _ _ h
 quiet:=λx h=>Kl 6 8 x.1 ⋯ x.2 h
def dDO(w:u_)(a:r_)(ks:x_ (PV×r_×V)):HO:=.ext λh=>ks.length<=zf/\(a == WL)=false/\∃xs:x_ (PV×r_×qe),
 Paired (λ(p:PV×r_×V)(q:PV×r_×qe)=>p.1=q.1/\p.2.1=q.2.1/\RelV p.2.2 q.2.2) ks xs/\
 ∃o es ep,h.get? a=a_ o/\o.ExactDict/\o.data=.dict es ep/\es.toList=xs.map (λx=>(⟨hsh w x.1,.ref x.2.1,x.2.2⟩:Yk))/\(xs.map (·.1)).Nodup
def M4(kd:Nat)(v d:r_):HO:=.ext λh=>match kd with
 |0=>h.IsItemsView v d
 |1=>h.IsValuesView v d
 |_=>∃o,h.get? v=a_ o/\o.cls=.type "dict_keys" /\ o.data=.fields #[.ref d]
inductive MO where
 |lst (xs:x_ PV)
 |dK (kvs:x_ (Key×PV))
 |ins (C:Str) (fs:x_ (Str×PV))
 |dD (kvs:x_ (PV×PV))
 |vw (kd d:Nat)
 |fz (o:MO)
abbrev PH:=x_ MO
abbrev Ev:=x_ (y_ PV)
structure PX where
 cls:Str
 fs:x_ (Str×PV)
inductive Rs(α:Type) where
 |ok (a:α) (h:PH)
 |exc (x:PX) (h:PH)
 |bad
inductive Fl where
 |nx (δ:Ev) (h:PH)
 |rt (p:PV) (h:PH)
 |bk (δ:Ev) (h:PH)
 |ct (δ:Ev) (h:PH)
 |exc (x:PX) (h:PH)
 |bad
abbrev Me:=Ev->PH->Rs PV
abbrev Ms:=Ev->PH->Fl
abbrev Fn:=Y9 0->PH->Rs PV
def Rs.bind{α β:Type}(r:Rs α)(f:α->PH->Rs β):Rs β:=match r with
 |.ok a h=>f a h
 |.exc x h=>.exc x h
 |.bad=>.bad
@[simp]theorem Rs.bind_ok{α β:Type}(a:α)(h:PH)(f:α->PH->Rs β):(Rs.ok a h).bind f=f a h:=rfl
@[simp]theorem Rs.bind_exc{α β:Type}(x:PX)(h:PH)(f:α->PH->Rs β):(Rs.exc x h:Rs α).bind f=.exc x h:=rfl
@[simp]theorem Rs.bind_bad{α β:Type}(f:α->PH->Rs β):(Rs.bad:Rs α).bind f=.bad:=rfl
structure MC where
 K:y0
 cl:Str->y_ r_
 bs:x_ Str
 ex:x_ r_->Hp->PX->Prop
 w:u_
def SqF(K:y0)(H:Hp)(a:r_)(xs:x_ V):Prop:=
 (∃o,H a=a_ (.frz o (.lst xs)))\/
  ∃(o:Obj)(its:Y6 0)(n:Nat),K.lookup a=a_ o/\o.cls=.type "list" /\ o.dict=b_/\o.data=.seq its n/\its.size<=zf/\aS xs its.toList
theorem SqF.sq{xs:x_ V}(h:SqF K H a xs):ZI a xs:=by
 rcases h with⟨o,h⟩|h
 ·show .inl (.inr ⟨o,h⟩)
 ·show .inr h
def Kp(H H':Hp):Prop:=nX H H'/\∀a o u,H a=a_ (.frz o u)->H' a=a_ (.frz o u)
theorem Kp.refl(H:Hp):Zu H:=⟨nX.refl H,λ_ _ _ h=>h⟩
theorem Kp.trans(a:Zu H1)(b:Kp H1 H2):Zu H2:=⟨a.1.trans b.1,λc o u h=>b.2 c o u (a.2 c o u h)⟩
theorem Kp.same(s:Fv H H'):Zu H':=⟨nX.same s,λ_ _ _ h=>s _ _ h⟩
theorem Kp.new{o:HO}(h:H a=b_):Zu (R_ a o):=Kp.same (Fv.upd h)
theorem Kp.upd{p:r_}{o:HO}(h:zJ (H p)):Zu (R_ p o):=⟨nX.upd h,λa ob u q=>by
 let ne:a≠p:=by rintro rfl;rw[q]at h;show h
 rw[aQ ne];show q⟩
theorem Kp.lst{H:Hp}{p:r_}{o:HO}{xs:x_ V}(h:H p=a_ (.lst xs)):Zu (L2.upd H p o):=Kp.upd (by rw[h];trivial)
theorem Kp.dK{H:Hp}{p:r_}{o:HO}{xs:x_ (Key×V)}(h:H p=a_ (.dK xs)):Zu (L2.upd H p o):=Kp.upd (by rw[h];trivial)
theorem Kp.sq{xs:x_ V}(t:Zu H')(h:ZD a xs):SqT K H' a xs:=t.1.sq h
theorem Kp.sf{xs:x_ V}(t:Zu H')(h:SqF K H a xs):SqF K H' a xs:=by
 rcases h with⟨o,h⟩|h
 ·show .inl ⟨o,t.2 _ _ _ h⟩
 ·show .inr h
section
variable(C:MC)(φ:x_ r_)(H:Hp)
mutual
def RV:PV->V->Prop
 |.non,v=>v=.non
 |.bl b,v=>v=.bl b
 |.int i,v=>v=.int i
 |.str x,v=>v=.str x
 |.ty n,v=>v=.ty n
 |.tup ps,v=>∃a vs,v=.ref a/\SqT C.K H a vs/\RVs ps vs
 |.ref n,v=>∃a,v=.ref a/\φ[n]?=a_ a
 |.fl ps,v=>∃a vs,v=.ref a/\SqF C.K H a vs/\RVs ps vs
def RVs:Y9 0->x_ V->Prop
 |[],[]=>True
 |p::ps,v::vs=>RV p v/\RVs ps vs
 |[],_::_=>False
 |_::_,[]=>False
end
def RKv{κ:Type}:x_ (κ×PV)->x_ (κ×V)->Prop:=Paired λp q=>p.1=q.1/\p_ p.2 q.2
def RKd:x_ (PV×PV)->x_ (PV×r_×V)->Prop:=Paired λp q=>p.1=q.1/\p.1.ky 6=true/\p_ p.1 (.ref q.2.1)/\p_ p.2 q.2.2
def RO(a:r_):MO->Prop
 |.lst ps=>∃vs,H a=a_ (.lst vs)/\A_ ps vs
 |.dK kvs=>∃ks,H a=a_ (.dK ks)/\ZG kvs ks
 |.ins n fs=>∃c dx ks,C.cl n=a_ c/\H a=a_ (.ins c dx ks)/\ZG fs ks
 |.dD kvs=>∃ks,H a=a_ (dDO C.w a ks)/\Z5 kvs ks
 |.vw kd d=>∃b,φ[d]?=a_ b/\H a=a_ (M4 kd a b)
 |.fz (.dK kvs)=>∃ob ks,H a=a_ (.frz ob (.dK ks))/\ZG kvs ks
 |.fz (.dD kvs)=>∃ob ks,H a=a_ (.frz ob (dDO C.w a ks))/\Z5 kvs ks
 |.fz _=>False
structure RH(h:PH):Prop where
 len:φ.length=h.length
 nd:φ.Nodup
 at':∀(n:Nat)(a:r_)(o:MO),φ[n]?=some a->h[n]?=some o->RO C φ H a o
def RE(δ:Ev)(σ:St):Prop:=δ.length=σ.length/\∀(i:Nat)(p:PV),δ[i]?=a_ (a_ p)->∃v,σ[i]?=a_ (a_ v)/\p_ p v
end
theorem jA{α:Type}{l l':x_ α}(p:l<+:l'){a:α}(h:l[n]?=a_ a):l'[n]?=a_ a:=by let⟨t,rfl⟩:=p;have:=(yy.mp h).1;rw[Wj this];show h
def Kq(H H':Hp):Prop:=nX H H'/\∀a o xs,H a=a_ (.frz o (.lst xs))->H' a=a_ (.frz o (.lst xs))
theorem Kp.q(t:Zu H'):Kq H H':=⟨t.1,λa o xs h=>t.2 a o _ h⟩
theorem Kq.sq{xs:x_ V}(t:Kq H H')(h:ZD a xs):SqT K H' a xs:=t.1.sq h
theorem Kq.sf{xs:x_ V}(t:Kq H H')(h:SqF K H a xs):SqF K H' a xs:=by
 rcases h with⟨o,h⟩|h
 ·show .inl ⟨o,t.2 _ _ _ h⟩
 ·show .inr h
mutual
theorem RV.monoQ(p:φ<+:φ')(t:Kq H H'):∀{x:PV}{v:V},p_ x v->RV C φ' H' x v
 |.non,_,h=>h
 |.bl _,_,h=>h
 |.int _,_,h=>h
 |.str _,_,h=>h
 |.ty _,_,h=>h
 |.tup _,_,⟨a,vs,e,q,r⟩=>⟨a,vs,e,t.sq q,RVs.monoQ p t r⟩
 |.ref _,_,⟨a,e,q⟩=>⟨a,e,jA p q⟩
 |.fl _,_,⟨a,vs,e,q,r⟩=>⟨a,vs,e,t.sf q,RVs.monoQ p t r⟩
theorem RVs.monoQ(p:φ<+:φ')(t:Kq H H'):∀{xs:Y9 0}{vs:x_ V},ZQ 0->RVs C φ' H' xs vs
 |[],[],_=>trivial
 |_::_,_::_,⟨h,r⟩=>⟨RV.monoQ p t h,RVs.monoQ p t r⟩
 |[],_::_,h=>h.elim
 |_::_,[],h=>h.elim
end
variable{C:MC}{φ φ':x_ r_}
theorem RV.mono(p:φ<+:φ')(t:Zu H'){x:PV}(h:p_ x v):RV C φ' H' x v:=RV.monoQ p t.q h
variable{xs:Y9 0}
theorem RVs.mono(p:φ<+:φ')(t:Zu H')(h:ZQ 0):RVs C φ' H' xs vs:=RVs.monoQ p t.q h
theorem RVs.length:∀{xs:Y9 0}{vs:x_ V},ZQ 0->xs.length=vs.length
 |[],[],_=>rfl
 |_::_,_::_,⟨_,r⟩=>by simp[RVs.length r]
 |[],_::_,h=>h.elim
 |_::_,[],h=>h.elim
theorem RVs.get:∀{xs:Y9 0}{vs:x_ V}{i:Nat}{v:V},ZQ 0->vs[i]?=a_ v->∃x,xs[i]?=a_ x/\p_ x v
 |[],[],_,_,_,e=>by simp at e
 |x::_,w::_,0,v,⟨h,_⟩,e=>by
  have:w=v:=by simpa using e
  subst this;show⟨x,rfl,h⟩
 |_::xs,_::vs,i+1,v,⟨_,r⟩,e=>by
  let⟨x,h1,h2⟩:=RVs.get (xs:=xs) (vs:=vs) (i:=i) (v:=v) r (ke e);show⟨x,ke h1,h2⟩
 |[],_::_,_,_,h,_=>h.elim
 |_::_,[],_,_,h,_=>h.elim
theorem RVs.at:∀{xs:Y9 0}{vs:x_ V}{i:Nat}{x:PV},ZQ 0->xs[i]?=a_ x->∃v,vs[i]?=a_ v/\p_ x v
 |[],[],_,_,_,e=>by simp at e
 |x::_,w::_,0,x',⟨h,_⟩,e=>by
  have:x=x':=by simpa using e
  subst this;show⟨w,rfl,h⟩
 |_::xs,_::vs,i+1,x,⟨_,r⟩,e=>by
  let⟨v,h1,h2⟩:=RVs.at (xs:=xs) (vs:=vs) (i:=i) (x:=x) r (ke e);show⟨v,ke h1,h2⟩
 |[],_::_,_,_,h,_=>h.elim
 |_::_,[],_,_,h,_=>h.elim
theorem RVs.append:∀{xs ys:Y9 0}{vs us:x_ V},ZQ 0->A_ ys us->A_ (xs++ys) (vs++us)
 |[],_,[],_,_,h=>h
 |_::_,_,_::_,_,⟨h,r⟩,h'=>⟨h,RVs.append r h'⟩
 |[],_,_::_,_,h,_=>h.elim
 |_::_,_,[],_,h,_=>h.elim
theorem RVs.snoc{x:PV}(r:ZQ 0)(h:p_ x v):A_ (xs++[x]) (vs++[v]):=r.append ⟨h,trivial⟩
theorem RVs.drop:∀{xs:Y9 0}{vs:x_ V}(n:Nat),ZQ 0->A_ (xs.drop n) (vs.drop n)
 |_,_,0,h=>h
 |[],[],_+1,_=>trivial
 |_::_,_::_,n+1,⟨_,r⟩=>RVs.drop n r
 |[],_::_,_+1,h=>h.elim
 |_::_,[],_+1,h=>h.elim
theorem RVs.take:∀{xs:Y9 0}{vs:x_ V}(n:Nat),ZQ 0->A_ (xs.take n) (vs.take n)
 |[],[],0,_=>trivial
 |_::_,_::_,0,_=>trivial
 |[],[],_+1,_=>trivial
 |_::_,_::_,n+1,⟨h,r⟩=>⟨h,RVs.take n r⟩
 |[],_::_,_,h=>h.elim
 |_::_,[],_,h=>h.elim
theorem RVs.set{x:PV}(h:p_ x v):∀{xs:Y9 0}{vs:x_ V}(n:Nat),ZQ 0->A_ (xs.set n x) (vs.set n v)
 |[],[],_,_=>trivial
 |_::_,_::_,0,⟨_,r⟩=>⟨h,r⟩
 |_::_,_::_,n+1,⟨q,r⟩=>⟨q,RVs.set h n r⟩
 |[],_::_,_,h=>h.elim
 |_::_,[],_,h=>h.elim
theorem RVs.reverse:∀{xs:Y9 0}{vs:x_ V},ZQ 0->A_ xs.reverse vs.reverse
 |[],[],_=>trivial
 |_::_,_::_,⟨h,r⟩=>by simp only[List.reverse_cons];show(RVs.reverse r).append ⟨h,trivial⟩
 |[],_::_,h=>h.elim
 |_::_,[],h=>h.elim
theorem RKv.monoQ{κ:Type}(p:φ<+:φ')(t:Kq H H'){x:x_ (κ×PV)}{v:x_ (κ×V)}(h:ZG x v):RKv C φ' H' x v:=Paired.mapP h λ_ _ q=>⟨q.1,q.2.monoQ p t⟩
theorem RKd.monoQ(p:φ<+:φ')(t:Kq H H'){x:x_ (PV×PV)}{v:x_ (PV×r_×V)}(h:Z5 x v):RKd C φ' H' x v:=Paired.mapP h λ_ _ q=>⟨q.1,q.2.1,q.2.2.1.monoQ p t,q.2.2.2.monoQ p t⟩
theorem RKv.mono{κ:Type}(p:φ<+:φ')(t:Zu H'){x:x_ (κ×PV)}{v:x_ (κ×V)}(h:ZG x v):RKv C φ' H' x v:=Paired.mapP h λ_ _ q=>⟨q.1,q.2.mono p t⟩
theorem RKd.mono(p:φ<+:φ')(t:Zu H'){x:x_ (PV×PV)}{v:x_ (PV×r_×V)}(h:Z5 x v):RKd C φ' H' x v:=Paired.mapP h λ_ _ q=>⟨q.1,q.2.1,q.2.2.1.mono p t,q.2.2.2.mono p t⟩
variable{δ:Ev}
theorem RE.mono(p:φ<+:φ')(t:Zu H')(h:Y7 0):RE C φ' H' δ σ:=⟨h.1,λi x e=>let ⟨v,q,r⟩:=h.2 i x e;⟨v,q,r.mono p t⟩⟩
theorem RE.set{x:PV}(h:Y7 0)(r:p_ x v)(i:Nat):RE C φ H (δ.set i (a_ x)) (σ.set i (a_ v)):=by
 refine⟨by rw[W6,W6];show h.1,λj p e=>?_⟩;by_cases hj:i=j
 ·subst hj;by_cases hl:i<δ.length
  ·rw[Wz hl]at e;cases e
   show⟨v,by rw[Wz (by rw[<-h.1];show hl)],r⟩
  ·rw[List.getElem?_eq_none (by rw[W6];omega)]at e;cases e
 ·rw[Wd hj]at e;rw[Wd hj];show h.2 j p e
variable{o:MO}
theorem RO.stayQ(p:φ<+:φ')(t:Kq H H')(e:H' a=H a)(h:RO C φ H a o):RO C φ' H' a o:=by
 cases o with
 |lst ps=>let⟨vs,q,r⟩:=h;show⟨vs,e.trans q,r.monoQ p t⟩
 |dK ps=>let⟨vs,q,r⟩:=h;show⟨vs,e.trans q,r.monoQ p t⟩
 |ins n fs=>let⟨c,dx,ks,hc,q,r⟩:=h;show⟨c,dx,ks,hc,e.trans q,r.monoQ p t⟩
 |dD kvs=>let⟨ks,q,r⟩:=h;show⟨ks,e.trans q,r.monoQ p t⟩
 |vw kd d=>let⟨b,hb,q⟩:=h;show⟨b,jA p hb,e.trans q⟩
 |fz o=>
  cases o with
  |dK kvs=>let⟨ob,ks,q,r⟩:=h;show⟨ob,ks,e.trans q,r.monoQ p t⟩
  |dD kvs=>let⟨ob,ks,q,r⟩:=h;show⟨ob,ks,e.trans q,r.monoQ p t⟩
  |_=>exact h.elim
theorem RO.stay(p:φ<+:φ')(t:Zu H')(e:H' a=H a)(h:RO C φ H a o):RO C φ' H' a o:=h.stayQ p t.q e
theorem RO.some(h:RO C φ H a o):∃u,H a=a_ u:=by
 cases o with
 |lst ps=>let⟨vs,q,r⟩:=h;show⟨_,q⟩
 |dK ps=>let⟨vs,q,r⟩:=h;show⟨_,q⟩
 |ins n fs=>let⟨c,dx,ks,hc,q,r⟩:=h;show⟨_,q⟩
 |dD kvs=>let⟨ks,q,r⟩:=h;show⟨_,q⟩
 |vw kd d=>let⟨b,hb,q⟩:=h;show⟨_,q⟩
 |fz o=>
  cases o with
  |dK kvs=>let⟨ob,ks,q,r⟩:=h;show⟨_,q⟩
  |dD kvs=>let⟨ob,ks,q,r⟩:=h;show⟨_,q⟩
  |_=>exact h.elim
variable{h:PH}
theorem RH.get(r:E_ h)(e:h[n]?=a_ o):∃a,φ[n]?=a_ a/\RO C φ H a o:=by
 let hn:=(yy.mp e).1;have:n<φ.length:=by rw[r.len];show hn
 show⟨φ[n],by simp[this],r.at' n _ o (by simp[this]) e⟩
theorem RH.tracked(r:E_ h)(e:φ[n]?=a_ a):∃u,H a=a_ u:=by
 let hn:=(yy.mp e).1;have:n<h.length:=by rw[<-r.len];show hn
 show(r.at' n a h[n] e (by simp[this])).some
theorem RH.aside(r:E_ h){o:HO}(e:H a=b_):RH C φ (R_ a o) h:=⟨r.len,r.nd,λn b ob h1 h2=>by let q:=r.at' n b ob h1 h2;let⟨u,hu⟩:=q.some;show q.stay (zc) (Kp.new e) (aQ (fG hu e))⟩
theorem RH.new(r:E_ h){u:HO}(e:H a=b_)(q:RO C (φ++[a]) (R_ a u) a o):RH C (φ++[a]) (R_ a u) (h++[o]):=by
 refine⟨by simp[r.len],?_,λn b ob h1 h2=>?_⟩
 ·rw[X0];refine⟨r.nd,by simp,λx hx y hy z=>?_⟩;rw[z7]at hy;subst hy z;let⟨n,hn⟩:=List.mem_iff_getElem?.mp hx;let⟨u',hu⟩:=r.tracked hn;rw[e]at hu;cases hu
 ·by_cases hn:n<φ.length
  ·rw[Wj hn]at h1;rw[Wj (by rw[<-r.len];show hn)]at h2;let q':=r.at' n b ob h1 h2;let⟨u',hu⟩:=q'.some;show q'.stay (Wx _ _) (Kp.new e) (aQ (fG hu e))
  ·let jw:n=φ.length:=by have:=(yy.mp h1).1;simp at this;omega
   subst jw;rw[Xe (zd _),Nat.sub_self]at h1;rw[r.len,Xe (zd _),Nat.sub_self]at h2;cases h1
   cases h2
   show q
theorem RH.write(r:E_ h){u:HO}(e:φ[n]?=a_ a)(t:zJ (H a))(q:RO C φ (R_ a u) a o):RH C φ (R_ a u) (ZK o):=by
 refine⟨by rw[W6];show r.len,r.nd,λm b ob h1 h2=>?_⟩;by_cases hm:n=m
 ·subst hm;rw[e]at h1;cases h1;let hl:n<h.length:=by rw[<-r.len];show(yy.mp e).1
  rw[Wz hl]at h2;cases h2
  show q
 ·rw[Wd hm]at h2;let hb:b≠a:=λz=>by subst z;show hm ((List.getElem?_inj (yy.mp e).1 r.nd).mp (e.trans h1.symm))
  show(r.at' m b ob h1 h2).stay zc (Kp.upd t) (aQ hb)
section
variable(C:MC)(φ:x_ r_)(H:Hp)
def post(r:Rs PV)(Q:VK):Prop:=match r with
 |.ok p h=>∀φ' v H',φ<+:φ'->Zu H'->Zh h->RV C φ' H' p v->Q v H'
 |.exc x h=>∀φ' H',φ<+:φ'->Zu H'->Zh h->C.ex φ' H' x
 |.bad=>False
def cX(r:ZH 0)(Q:Bool->Hp->Prop):Prop:=match r with
 |.ok b h=>∀φ' H',φ<+:φ'->Zu H'->Zh h->Q b H'
 |.exc x h=>∀φ' H',φ<+:φ'->Zu H'->Zh h->C.ex φ' H' x
 |.bad=>False
def postA(r:Rs (Y9 0))(Q:x_ V->Hp->Prop):Prop:=match r with
 |.ok ps h=>∀φ' vs H',φ<+:φ'->Zu H'->Zh h->RVs C φ' H' ps vs->Q vs H'
 |.exc x h=>∀φ' H',φ<+:φ'->Zu H'->Zh h->C.ex φ' H' x
 |.bad=>False
def cY(r:Fl)(D:Ends):Prop:=match r with
 |.nx δ h=>∀φ' σ H',φ<+:φ'->Zu H'->Zh h->RE C φ' H' δ σ->D.nx σ H'
 |.rt p h=>∀φ' v H',φ<+:φ'->Zu H'->Zh h->RV C φ' H' p v->D.rt v H'
 |.bk δ h=>∀φ' σ H',φ<+:φ'->Zu H'->Zh h->RE C φ' H' δ σ->D.bk σ H'
 |.ct δ h=>∀φ' σ H',φ<+:φ'->Zu H'->Zh h->RE C φ' H' δ σ->D.ct σ H'
 |.exc x h=>∀φ' H',φ<+:φ'->Zu H'->Zh h->C.ex φ' H' x
 |.bad=>False
end
variable{φ1:x_ r_}
theorem post.weak{r:Rs PV}{Q:VK}(p:φ<+:φ1)(t:Zu H1)(h:O_ r Q):post C φ1 H1 r Q:=by
 cases r with
 |ok a h'=>exact λφ' v H' p' t'=>h φ' v H' (p.trans p') (t.trans t')
 |exc a h'=>exact λφ' H' p' t'=>h φ' H' (p.trans p') (t.trans t')
 |bad=>exact h
theorem cX.weak{r:ZH 0}{Q:Bool->Hp->Prop}(p:φ<+:φ1)(t:Zu H1)(h:cX C φ H r Q):cX C φ1 H1 r Q:=by
 cases r with
 |ok a h'=>exact λφ' H' p' t'=>h φ' H' (p.trans p') (t.trans t')
 |exc a h'=>exact λφ' H' p' t'=>h φ' H' (p.trans p') (t.trans t')
 |bad=>exact h
theorem postA.weak{r:Rs (Y9 0)}{Q:x_ V->Hp->Prop}(p:φ<+:φ1)(t:Zu H1)(h:postA C φ H r Q):postA C φ1 H1 r Q:=by
 cases r with
 |ok a h'=>exact λφ' v H' p' t'=>h φ' v H' (p.trans p') (t.trans t')
 |exc a h'=>exact λφ' H' p' t'=>h φ' H' (p.trans p') (t.trans t')
 |bad=>exact h
theorem cY.weak{r:Fl}{D:Ends}(p:φ<+:φ1)(t:Zu H1)(h:cY C φ H r D):cY C φ1 H1 r D:=by
 cases r with
 |nx a h'=>exact λφ' v H' p' t'=>h φ' v H' (p.trans p') (t.trans t')
 |rt a h'=>exact λφ' v H' p' t'=>h φ' v H' (p.trans p') (t.trans t')
 |bk a h'=>exact λφ' v H' p' t'=>h φ' v H' (p.trans p') (t.trans t')
 |ct a h'=>exact λφ' v H' p' t'=>h φ' v H' (p.trans p') (t.trans t')
 |exc a h'=>exact λφ' H' p' t'=>h φ' H' (p.trans p') (t.trans t')
 |bad=>exact h
theorem post.imp{r:Rs PV}{Q Q':VK}(h:O_ r Q)(i:∀v H',Q v H'->Q' v H'):O_ r Q':=by
 cases r with
 |ok a h'=>exact λφ' v H' p t rh rv=>i v H' (h φ' v H' p t rh rv)
 |exc a h'=>exact h
 |bad=>exact h
theorem post.bind{r:Rs PV}{f:PV->PH->Rs PV}{Q:VK}(h:O_ (r.bind f) Q):O_ r λv H1=>∃φ1 p h1,φ<+:φ1/\Zu H1/\Zi 0/\RV C φ1 H1 p v/\post C φ1 H1 (f p h1) Q:=by
 cases r with
 |ok a h'=>exact λφ' v H' p t rh rv=>⟨φ',a,h',p,t,rh,rv,post.weak p t h⟩
 |exc a h'=>exact h
 |bad=>exact h
theorem post.bindB{r:Rs PV}{f:PV->PH->ZH 0}{Q:Bool->Hp->Prop}(h:cX C φ H (r.bind f) Q):O_ r λv H1=>∃φ1 p h1,φ<+:φ1/\Zu H1/\Zi 0/\RV C φ1 H1 p v/\cX C φ1 H1 (f p h1) Q:=by
 cases r with
 |ok a h'=>exact λφ' v H' p t rh rv=>⟨φ',a,h',p,t,rh,rv,cX.weak p t h⟩
 |exc a h'=>exact h
 |bad=>exact h
theorem cX.bind{r:ZH 0}{f:Bool->PH->Rs PV}{Q:VK}(h:O_ (r.bind f) Q):cX C φ H r λb H1=>∃φ1 h1,φ<+:φ1/\Zu H1/\Zi 0/\post C φ1 H1 (f b h1) Q:=by
 cases r with
 |ok a h'=>exact λφ' H' p t rh=>⟨φ',h',p,t,rh,post.weak p t h⟩
 |exc a h'=>exact h
 |bad=>exact h
theorem cX.bindB{r:ZH 0}{f:Bool->PH->ZH 0}{Q:Bool->Hp->Prop}(h:cX C φ H (r.bind f) Q):cX C φ H r λb H1=>∃φ1 h1,φ<+:φ1/\Zu H1/\Zi 0/\cX C φ1 H1 (f b h1) Q:=by
 cases r with
 |ok a h'=>exact λφ' H' p t rh=>⟨φ',h',p,t,rh,cX.weak p t h⟩
 |exc a h'=>exact h
 |bad=>exact h
theorem postA.bind{r:Rs (Y9 0)}{f:Y9 0->PH->Rs PV}{Q:VK}(h:O_ (r.bind f) Q):postA C φ H r λvs H1=>∃φ1 ps h1,φ<+:φ1/\Zu H1/\Zi 0/\RVs C φ1 H1 ps vs/\post C φ1 H1 (f ps h1) Q:=by
 cases r with
 |ok a h'=>exact λφ' v H' p t rh rv=>⟨φ',a,h',p,t,rh,rv,post.weak p t h⟩
 |exc a h'=>exact h
 |bad=>exact h
theorem postA.bindA{r:Rs (Y9 0)}{f:Y9 0->PH->Rs (Y9 0)}{Q:x_ V->Hp->Prop}(h:postA C φ H (r.bind f) Q):postA C φ H r λvs H1=>∃φ1 ps h1,φ<+:φ1/\Zu H1/\Zi 0/\RVs C φ1 H1 ps vs/\postA C φ1 H1 (f ps h1) Q:=by
 cases r with
 |ok a h'=>exact λφ' v H' p t rh rv=>⟨φ',a,h',p,t,rh,rv,postA.weak p t h⟩
 |exc a h'=>exact h
 |bad=>exact h
theorem post.bindA{r:Rs PV}{f:PV->PH->Rs (Y9 0)}{Q:x_ V->Hp->Prop}(h:postA C φ H (r.bind f) Q):O_ r λv H1=>∃φ1 p h1,φ<+:φ1/\Zu H1/\Zi 0/\RV C φ1 H1 p v/\postA C φ1 H1 (f p h1) Q:=by
 cases r with
 |ok a h'=>exact λφ' v H' p t rh rv=>⟨φ',a,h',p,t,rh,rv,postA.weak p t h⟩
 |exc a h'=>exact h
 |bad=>exact h
theorem post.val{Q:VK}(q:O_ (.ok p h) Q)(rh:E_ h)(rv:p_ p v):Q v H:=q φ v H zc (Kp.refl H) rh rv
structure Cxt(C:MC)(k:Nat)(X:Cx):Prop where
 K:X.K=C.K
 calm:X.calm=true
 room:gU k X.A
 bn:∀x∈C.bs,X.mg x=none
 w:X.w=C.w
theorem Cxt.hu{k:Nat}(c:Y4 X):X.A.units+1<cLine:=TC c.room
theorem Cxt.hu64{k:Nat}(c:Y4 X):X.A.units+64<cLine:=c.room.units
theorem Cxt.comp{k:Nat}(c:Y4 X)(sc:Scope)(N:Zw 0)(a:r_)(fp:x_ r_)(s:q_)(H:Hp):Y4 (P_ a fp s H):=⟨c.K,c.calm,c.room,c.bn,c.w⟩
section
variable(C:MC)
def rd(m:Me):TE:=λσ H Q=>∃φ δ h,E_ h/\Y7 0/\O_ (m δ h) Q
def rdB(m:Ev->PH->ZH 0):TT:=λσ H Q=>∃φ δ h,E_ h/\Y7 0/\cX C φ H (m δ h) Q
def rdA(m:Ev->PH->Rs (Y9 0)):TA:=λσ H Q=>∃φ δ h,E_ h/\Y7 0/\postA C φ H (m δ h) Q
def rdS(m:Ms):TS:=λD σ H=>∃φ δ h,E_ h/\Y7 0/\cY C φ H (m δ h) D
def r2(g:PV->PV->PH->Rs PV):R2:=λx y H Q=>∃φ h p q,E_ h/\p_ p x/\p_ q y/\O_ (g p q h) Q
def r1(g:PV->PH->Rs PV):V->Hp->VK->Prop:=λx H Q=>∃φ h p,E_ h/\p_ p x/\O_ (g p h) Q
def rL(g:Y9 0->PH->Rs PV):x_ V->Hp->VK->Prop:=λxs H Q=>∃φ h ps,E_ h/\A_ ps xs/\O_ (g ps h) Q
end
variable{C:MC}{k:Nat}{X:Cx}
def SE(C:MC)(k:Nat)(X:Cx)(e:v_)(m:Me):Prop:=Y4 X->Zx e (rd C m)
def ST(C:MC)(k:Nat)(X:Cx)(e:v_)(m:Ev->PH->ZH 0):Prop:=Y4 X->PT X e (rdB C m)
def SA(C:MC)(k:Nat)(X:Cx)(es:x_ v_)(m:Ev->PH->Rs (Y9 0)):Prop:=Y4 X->PA X es (rdA C m)
def SSt(C:MC)(k:Nat)(X:Cx)(st:w_)(m:Ms):Prop:=Y4 X->PS X st (rdS C m)
def SSs(C:MC)(k:Nat)(X:Cx)(st:x_ w_)(m:Ms):Prop:=Y4 X->PSs X st (rdS C m)
def OpS(C:MC)(k:Nat)(X:Cx)(f:qe->qe->Sem qe)(g:PV->PV->PH->Rs PV):Prop:=Y4 X->Y5 f (r2 C g)
def vD(C:MC)(k:Nat)(X:Cx)(f:qe)(g:Y9 0->PH->Rs PV):Prop:=Y4 X->eL X f (rL C g)
def A6:Ev->Nat->y_ PV
 |[],_=>b_
 |x::_,0=>x
 |_::r,n+1=>A6 r n
@[simp]theorem Km(x:y_ PV)(r:Ev):A6 (x::r) 0=x:=(rfl)
@[simp]theorem Kn(x:y_ PV)(r:Ev)(n:Nat):A6 (x::r) (n+1)=A6 r n:=(rfl)
theorem Bf:∀{δ:Ev}{i:Nat}{p:PV},A6 δ i=a_ p->δ[i]?=a_ (a_ p)
 |[],_,_,h=>by cases h
 |x::_,0,p,h=>by let h':x=a_ p:=h;simp[h']
 |_::r,n+1,p,h=>by rw[W7];show Bf (δ:=r) (i:=n) h
def mV(i:Nat):Me:=λδ h=>match A6 δ i with
 |some p=>.ok p h
 |none=>.bad
def mC(p:PV):Me:=λ_ h=>.ok p h
theorem aA(i:Nat)(hN:X.N[i]?=a_ x:=by rfl)(hv:Vis X.env.scope x:=by first|exact Or.inl rfl|exact Or.inr (Or.inl rfl)|exact Or.inr (Or.inr rfl))(hd:(x == ("__debug__" : Str))=false:=by decide)(d8:(x == ("__classdict__" : Str))=false:=by decide):C_ (.Name x pos) (mV i):=λ_=>by
 refine(QT hN hv hd d8).imp λσ H Q h=>?_;let⟨φ,δ,h,rh,re,p⟩:=h;unfold mV at p;cases e:A6 δ i with
 |none=>rw[e]at p;show p.elim
 |some x=>rw[e]at p;let⟨v,hv,rv⟩:=re.2 i x (Bf e);show⟨v,hv,p.val rh rv⟩
theorem aL{i j pos}:C_ (.Constant (.int i) j pos) (mC (.int i)):=λ_=>QU.imp λσ H Q ⟨φ,δ,h,rh,re,p⟩=>p.val rh rfl
theorem Ko{i j pos}:C_ (.Constant (.bool i) j pos) (mC (.bl i)):=λ_=>Ta.imp λσ H Q ⟨φ,δ,h,rh,re,p⟩=>p.val rh rfl
theorem Bg{j pos}:C_ (.Constant .none j pos) (mC .non):=λ_=>QV.imp λσ H Q ⟨φ,δ,h,rh,re,p⟩=>p.val rh rfl
theorem dO{i j pos}:C_ (.Constant (.str i) j pos) (mC (.str i)):=λ_=>QW.imp λσ H Q ⟨φ,δ,h,rh,re,p⟩=>p.val rh rfl
theorem xT{n:String}(hv:XD x=a_ (.type n))(hb:x∈C.bs:=by decide)(hg:Gl X x:=by rfl)(hn:x≠"__name__" := by decide)(hd:(x == ("__debug__" : Str))=false:=by decide):C_ (.Name x pos) (mC (.ty n)):=λc=>(O6 (v:=.ty n) hg (c.bn x hb) hv rfl hn hd).imp λσ H Q ⟨φ,δ,h,rh,re,p⟩=>p.val rh rfl
def aG(g:PV->PV->PH->Rs PV)(ma mb:Me):Me:=λδ h=>(ma δ h).bind λx h1=>(mb δ h1).bind λy h2=>g x y h2
variable{ma mb:Me}
theorem Jc{g:PV->PV->PH->Rs PV}{Q:VK}(h:rd C (aG g ma mb) σ H Q):tOp (r2 C g) (rd C ma) (rd C mb) σ H Q:=by let⟨φ,δ,h,rh,re,p⟩:=h;refine⟨φ,δ,h,rh,re,(post.bind p).imp ?_⟩;rintro v H1 ⟨φ1,x,h1,p1,t1,ab,af,q1⟩;refine⟨φ1,δ,h1,ab,S_ 0,(post.bind q1).imp ?_⟩;rintro u H2 ⟨φ2,y,h2,p2,t2,aj,bo,q2⟩;show⟨φ2,h2,x,y,aj,af.mono p2 t2,bo,q2⟩
variable{op:CmpOp}
section
variable{a b:v_}{g:PV->PV->PH->Rs PV}
theorem bB{op:Operator}(ho:Y3 (WU op) g)(ha:C_ a ma)(hb:C_ b mb):C_ (.BinOp a op b pos) (aG g ma mb):=λc=>(Tj (ho c) (ha c) (hb c)).imp λσ H Q h=>Jc h
theorem Jd(ho:Y3 (VX op) g)(ha:C_ a ma)(hb:C_ b mb)(hm:behindInMarks op b=false:=by first|exact Ln _|rfl):C_ (.Compare a [op] [b] pos) (aG g ma mb):=λc=>(Oe (ho c) (ha c) (hb c) hm).imp λσ H Q h=>Jc h
def mUn(g:PV->PH->Rs PV)(ma:Me):Me:=λδ h=>(ma δ h).bind g
end
def aZ(h:PH)(n:Nat):y_ (Y9 0):=match h[n]? with
 |some (.lst xs)=>a_ xs
 |_=>b_
theorem cZ(rh:E_ h)(e:aZ h n=a_ xs):∃a vs,φ[n]?=a_ a/\SqL C.K H a vs/\ZQ 0:=by
 unfold aZ at e;cases q:h[n]? with
 |none=>rw[q]at e;cases e
 |some o=>
  rw[q]at e;let⟨a,ha,ro⟩:=rh.get q;cases o with
  |lst ys=>cases e;let⟨vs,q',r⟩:=ro;show⟨a,vs,ha,SqL.of q',r⟩
  |_=>cases e
def dA(h:PH)(n:Nat):y_ (Y9 0):=match h[n]? with
 |some (.lst xs)=>a_ xs
 |_=>b_
theorem jE(e:dA h n=a_ xs):h[n]?=a_ (.lst xs):=by
 unfold dA at e;cases q:h[n]? with
 |none=>rw[q]at e;cases e
 |some o=>
  rw[q]at e;cases o with
  |lst ys=>cases e;rfl
  |_=>cases e
def lY(x:PV)(h:PH):y_ (Y9 0):=match x with
 |.ref n=>aZ h n
 |.fl xs=>a_ xs
 |_=>b_
theorem kN{x:PV}(rh:E_ h)(rv:p_ x v)(e:lY x h=a_ xs):∃a vs,v=.ref a/\SqL C.K H a vs/\ZQ 0:=by
 cases x with
 |ref n=>let⟨a,rfl,ha⟩:=rv;let⟨a2,vs,ar,sa,ra⟩:=cZ rh e;rw[ha]at ar;cases ar;show⟨a,vs,rfl,sa,ra⟩
 |fl ys=>
  cases e
  let⟨a,vs,rfl,sa,ra⟩:=rv;show⟨a,vs,rfl,sa.sq,ra⟩
 |_=>cases e
def Qx:Y9 0->Bool
 |[]=>true
 |_::_=>false
def RW:PV->PV->PH->Rs PV:=λx y h=>match x,y with
 |.int i,.int j=>.ok (.int (i+j)) h
 |.str i,.str j=>if i.length+j.length<=zf then .ok (.str (i++j)) h else .bad
 |.tup xs,.tup ys=>if Qx xs=false/\xs.length+ys.length<=zf then .ok (.tup (xs++ys)) h else .bad
 |.ref a,.ref b=>match dA h a,dA h b with
  |some xs,a_ ys=>if xs.length+ys.length<=zf then .ok (.ref h.length) (h++[.lst (xs++ys)]) else .bad
  |_,_=>.bad
 |_,_=>.bad
theorem post.ite{c:Prop}[Decidable c]{r:Rs PV}{Q:VK}(h:O_ (if c then r else .bad) Q):c/\O_ r Q:=by
 by_cases hc:c
 ·rw[if_pos hc]at h;show⟨hc,h⟩
 ·rw[if_neg hc]at h;show h.elim
theorem post.lnew{Q:VK}(q:O_ (.ok (.ref h.length) (h++[.lst xs])) Q)(rh:E_ h)(r:ZQ 0){p:r_}(hp:H p=b_):Q (.ref p) (R_ p (.lst vs)):=q (φ++[p]) (.ref p) _ (Wx _ _) (Kp.new hp) (rh.new hp ⟨vs,aX,r.mono (Wx _ _) (Kp.new hp)⟩) ⟨p,rfl,by rw[<-rh.len];simp⟩
theorem post.tnew{Q:VK}(q:O_ (.ok (.tup xs) h) Q)(rh:E_ h)(r:ZQ 0){p:r_}(hp:H p=b_):Q (.ref p) (R_ p (.tup vs)):=q φ (.ref p) _ zc (Kp.new hp) (rh.aside hp) ⟨p,vs,rfl,SqT.of aX,r.mono zc (Kp.new hp)⟩
theorem post.lset{ws:x_ V}{Q:VK}(q:O_ (.ok p (ZK (.lst xs))) Q)(rh:E_ h)(e:φ[n]?=a_ a)(hl:H a=a_ (.lst ws))(r:ZQ 0)(rv:p_ p v):Q v (R_ a (.lst vs)):=q φ v _ zc (Kp.lst hl) (rh.write e (by rw[hl];trivial) ⟨vs,aX,r.mono zc (Kp.lst hl)⟩) (rv.mono zc (Kp.lst hl))
theorem M5(r:ZQ 0)(h:Qx xs=false):vs≠[]:=by
 cases xs with
 |nil=>cases h
 |cons x xs=>
  cases vs with
  |nil=>exact r.elim
  |cons=>intro z;cases z
theorem TZ:Y3 (WU .Add) RW:=λc=>(Ox C.K c.K).imp λx y H Q h=>by
 let⟨φ,h,p,q,rh,rx,ry,po⟩:=h;unfold RW at po;cases p with
 |int i=>
  cases q with
  |int j=>cases rx;cases ry;show P1 rfl
  |_=>exact po.elim
 |str i=>
  cases q with
  |str j=>cases rx;cases ry;show⟨po.ite.1,po.ite.2.val rh rfl⟩
  |_=>exact po.elim
 |tup xs=>
  cases q with
  |tup ys=>let⟨a,vs,rfl,sa,ra⟩:=rx;let⟨b,us,rfl,sb,rb⟩:=ry;let⟨⟨h1,h2⟩,po⟩:=po.ite;refine .inr ⟨a,b,vs,us,rfl,rfl,sa,sb,M5 ra h1,by rw[<-ra.length,<-rb.length];show h2,λz=>?_,λz p hp=>po.tnew rh (ra.append rb) hp⟩;subst z;let e:ys=[]:=List.eq_nil_of_length_eq_zero rb.length;subst e;show P1 ⟨a,vs,rfl,sa,by rw[Xk];show ra⟩
  |_=>exact po.elim
 |ref n=>
  cases q with
  |ref m=>
   let⟨a,rfl,ha⟩:=rx;let⟨b,rfl,hb⟩:=ry;dsimp only at po;cases e1:dA h n with
   |none=>rw[e1]at po;show po.elim
   |some xs=>
    cases e2:dA h m with
    |none=>rw[e1,e2]at po;show po.elim
    |some ys=>rw[e1,e2]at po;let⟨vs,h1,r1⟩:=Y0 (jE e1);let⟨us,h2,r2⟩:=rh.at' m b _ hb (jE e2);let⟨hz,po⟩:=po.ite;show .inl ⟨a,b,vs,us,rfl,rfl,h1,h2,by rw[<-r1.length,<-r2.length];show hz,λp hp=>po.lnew rh (r1.append r2) hp⟩
  |_=>exact po.elim
 |_=>exact po.elim
def vInt(P:Int->Int->Prop)[∀i j,Decidable (P i j)](f:Int->Int->Int):PV->PV->PH->Rs PV:=λx y h=>match x,y with
 |.int i,.int j=>if P i j then .ok (.int (f i j)) h else .bad
 |_,_=>.bad
theorem Je{P:Int->Int->Prop}[∀i j,Decidable (P i j)](ho:Y5 f (D1 P g)):Y3 f (vInt P g):=λc=>ho.imp λx y H Q h=>by
 let⟨φ,h,p,q,rh,rx,ry,po⟩:=h;unfold vInt at po;cases p with
 |int i=>
  cases q with
  |int j=>cases rx;cases ry;show⟨po.ite.1,po.ite.2.val rh rfl⟩
  |_=>exact po.elim
 |_=>exact po.elim
noncomputable instance(i j:Int):Decidable (Fo i j):=W8 _
noncomputable instance(i j:Int):Decidable (Lm i j):=W8 _
noncomputable instance(i j:Int):Decidable (JX i j):=W8 _
def HK:PV->PV->PH->Rs PV:=λx y h=>match x,y with
 |.int i,.int j=>.ok (.int (i-j)) h
 |_,_=>.bad
theorem M6:Y3 (WU .Sub) HK:=λc=>Oy.imp λx y H Q h=>by
 let⟨φ,h,p,q,rh,rx,ry,po⟩:=h;unfold HK at po;cases p with
 |int i=>
  cases q with
  |int j=>cases rx;cases ry;show P1 rfl
  |_=>exact po.elim
 |_=>exact po.elim
noncomputable abbrev HL:=vInt Fo λi j=>i*j
noncomputable abbrev xU:=vInt Lm λi j=>i/j
abbrev jM:=vInt (λ_ j=>0<j) λi j=>i%j
noncomputable abbrev RX:=vInt JX λi j=>i ^ j.toNat
theorem Jf:Y3 (WU .Mult) HL:=Je Oz
theorem Bh:Y3 (WU .FloorDiv) xU:=Je OA
theorem jZ:Y3 (WU .Mod) jM:=Je OB
theorem Qy:Y3 (WU .Pow) RX:=Je OC
variable{C:MC}{k:Nat}{X:Cx}
def Kr(f:Int->Int->Bool)(g:x_ Nat->x_ Nat->Bool):PV->PV->PH->Rs PV:=λx y h=>match x,y with
 |.int i,.int j=>.ok (.bl (f i j)) h
 |.str i,.str j=>.ok (.bl (g i.cps.toList j.cps.toList)) h
 |_,_=>.bad
theorem M7{p:Int->Int->Bool}{g:x_ Nat->x_ Nat->Bool}(ho:Y5 f (Fy p g)):Y3 f (Kr p g):=λc=>ho.imp λx y H Q h=>by
 let⟨φ,h,p,q,rh,rx,ry,po⟩:=h;unfold Kr at po;cases p with
 |int i=>
  cases q with
  |int j=>cases rx;cases ry;show P1 rfl
  |_=>exact po.elim
 |str i=>
  cases q with
  |str j=>cases rx;cases ry;show P1 rfl
  |_=>exact po.elim
 |_=>exact po.elim
abbrev vLt:=Kr (λi j=>decide (i<j)) λi j=>decide (i<j)
abbrev vGt:=Kr (λi j=>decide (j<i)) λi j=>decide (j<i)
abbrev vLe:=Kr (λi j=>decide (i<=j)) λi j=>!decide (j<i)
theorem Vp:Y3 (VX .Lt) vLt:=M7 Ry
theorem Vq:Y3 (VX .Gt) vGt:=M7 Rz
theorem U0:Y3 (VX .LtE) vLe:=M7 RA
mutual
def PV.d:PV->y_ D
 |.non=>a_ .non
 |.bl b=>a_ (.bl b)
 |.int i=>d_ i
 |.str x=>a_ (.str x)
 |.tup xs=>match PV.ds xs with
  |some ds=>a_ (.tup ds)
  |none=>b_
 |.ref _=>b_
 |.ty _=>b_
 |.fl _=>b_
def PV.ds:Y9 0->y_ (x_ D)
 |[]=>a_ []
 |x::xs=>match PV.d x,PV.ds xs with
  |some d,a_ ds=>a_ (d::ds)
  |_,_=>b_
end
mutual
theorem RV.rep:∀{x:PV}{d:D}{v:V},p_ x v->x.d=a_ d->Rep C.K H d v
 |.non,_,_,h,e=>by cases e;show h
 |.bl _,_,_,h,e=>by cases e;show h
 |.int _,_,_,h,e=>by cases e;show h
 |.str _,_,_,h,e=>by cases e;show h
 |.tup xs,d,v,⟨a,vs,e1,q,r⟩,e=>by
  unfold PV.d at e;cases e2:PV.ds xs with
  |none=>rw[e2]at e;cases e
  |some ds=>
   rw[e2]at e;cases e
   show⟨a,vs,e1,q,RVs.reps r e2⟩
 |.ref _,_,_,_,e=>by cases e
 |.ty _,_,_,_,e=>by cases e
 |.fl _,_,_,_,e=>by cases e
theorem RVs.reps:∀{xs:Y9 0}{ds:x_ D}{vs:x_ V},ZQ 0->PV.ds xs=a_ ds->eO C.K H ds vs
 |[],_,[],_,e=>by cases e;trivial
 |x::xs,_,v::vs,⟨h,r⟩,e=>by
  unfold PV.ds at e;cases e1:PV.d x with
  |none=>rw[e1]at e;cases e
  |some d=>
   cases e2:PV.ds xs with
   |none=>rw[e1,e2]at e;cases e
   |some ds=>
    rw[e1,e2]at e;cases e
    show⟨RV.rep h e1,RVs.reps r e2⟩
 |[],_,_::_,h,_=>h.elim
 |_::_,_,[],h,_=>h.elim
end
def mM(x y:PV)(h:PH):y_ Bool:=match x.d,y.d with
 |some d,a_ e=>if d.depth<=40 then a_ (eqD d e) else b_
 | _,_=>match lY x h,lY y h with
   |some xs,a_ ys=>match PV.ds xs,PV.ds ys with
    |some ds,a_ es=>if Q_ 0<=40 then a_ (iO ds es) else b_
    |_,_=>b_
   |_,_=>b_
def ofB(o:y_ Bool)(h:PH):Rs PV:=match o with
 |some b=>.ok (.bl b) h
 |none=>.bad
def vEq:PV->PV->PH->Rs PV:=λx y h=>ofB (mM x y h) h
def vNe:PV->PV->PH->Rs PV:=λx y h=>ofB ((mM x y h).map not) h
theorem nZ{q:PV}{x:V}(rh:E_ h)(rx:p_ p x)(ry:p_ q y)(e:mM p q h=a_ b):
  (∃d e,Rep C.K H d x/\Rep C.K H e y/\d.depth<=40/\b=eqD d e)\/(∃ds es,FA C.K H ds x/\FA C.K H es y/\Q_ 0<=40/\b=iO ds es):=by
 unfold mM at e;split at e
 ·rename_i d e' h1 h2;split at e
  ·rename_i hd;cases e
   show .inl ⟨d,e',rx.rep h1,ry.rep h2,hd,rfl⟩
  ·cases e
 ·split at e
  ·rename_i xs ys h1 h2;split at e
   ·rename_i ds es h3 h4;split at e
    ·rename_i hd;cases e
     let⟨a',vs,rfl,sa,ra⟩:=kN rh rx h1;let⟨yj,us,rfl,sb,rb⟩:=kN rh ry h2;show .inr ⟨ds,es,⟨a',vs,rfl,sa,ra.reps h3⟩,⟨yj,us,rfl,sb,rb.reps h4⟩,hd,rfl⟩
    ·cases e
   ·cases e
  ·cases e
theorem post.ofB{o:y_ Bool}{Q:VK}(q:O_ (ofB o h) Q):∃b,o=a_ b/\O_ (.ok (.bl b) h) Q:=by
 cases o with
 |none=>exact q.elim
 |some b=>exact⟨b,rfl,q⟩
theorem xV:Y3 (VX .Eq) vEq:=λc=>((RF c.hu64 C.K c.K).or (RK c.hu64 C.K c.K)).imp λx y H Q h=>by
 let⟨φ,h,p,q,rh,rx,ry,po⟩:=h;let⟨b,e,po⟩:=po.ofB;rcases nZ rh rx ry e with⟨d,e',h1,h2,h3,rfl⟩|⟨d,e',h1,h2,h3,rfl⟩
 ·show .inl ⟨d,e',h1,h2,h3,P1 rfl⟩
 ·show .inr ⟨d,e',h1,h2,h3,P1 rfl⟩
theorem U1:Y3 (VX .NotEq) vNe:=λc=>((RG c.hu64 C.K c.K).or (RM c.hu64 C.K c.K)).imp λx y H Q h=>by
 let⟨φ,h,p,q,rh,rx,ry,po⟩:=h;let⟨b,e,po⟩:=po.ofB;cases e0:mM p q h with
 |none=>rw[e0]at e;cases e
 |some b'=>
  rw[e0]at e;cases e
  rcases nZ rh rx ry e0 with⟨d,e',h1,h2,h3,rfl⟩|⟨d,e',h1,h2,h3,rfl⟩
  ·show .inl ⟨d,e',h1,h2,h3,P1 rfl⟩
  ·show .inr ⟨d,e',h1,h2,h3,P1 rfl⟩
def A7:PV->y_ Key
 |.int i=>a_ (.inl i)
 |.str x=>a_ (.inr x)
 |_=>b_
def aP{κ:Type}[DecidableEq κ]:x_ (κ×PV)->κ->y_ PV
 |[],_=>b_
 |(a,p)::r,b=>if a=b then a_ p else aP r b
def FJ(h:PH)(n:Nat)(x:PV):y_ (y_ PV):=match h[n]? with
 |some (.dK kvs)=>match A7 x with
  |some key=>a_ (Zk key)
  |none=>b_
 |_=>b_
def FK(x:PV)(ys:Y9 0):y_ Bool:=match x.d,PV.ds ys with
 |some d,a_ ds=>if Q_ 0<=40 then a_ (ds.any λe=>eqD e d) else b_
 |_,_=>b_
def M8(x y:PV)(h:PH):y_ Bool:=match y with
 |.tup ys=>FK x ys
 |.ref n=>match aZ h n with
  |some ys=>FK x ys
  |none=>(FJ h n x).map Option.isSome
 |.fl ys=>FK x ys
 |_=>b_
def vIn:PV->PV->PH->Rs PV:=λx y h=>ofB (M8 x y h) h
def Bi:PV->PV->PH->Rs PV:=λx y h=>ofB ((M8 x y h).map not) h
theorem E1{x:PV}{key:Key}(r:p_ x v)(e:A7 x=a_ key):v=kV key:=by cases x <;> first|(cases e;show r)|cases e
theorem xX{κ:Type}[DecidableEq κ]{kvs:x_ (κ×PV)}{ks:x_ (κ×V)}(r:ZG kvs ks)(a:κ):match Zk a,nA ks a with
  |some p,a_ v=>p_ p v
  |none,b_=>True
  |_,_=>False:=by
 unfold RKv at r
 induction r with
 |nil=>trivial
 | @cons p q ps qs h t ih=>
  let⟨h1,h2⟩:=h;let⟨pk,pv⟩:=p;by_cases e:pk=a
  ·let e':q.1=a:=h1.symm.trans e;rw[uR e'];unfold aP;rw[if_pos e];show h2
  ·let e':¬ q.1=a:=λz=>e (h1.trans z);rw[uS e'];unfold aP;rw[Zs 0];show ih
theorem tF{x:PV}{o:y_ PV}(rh:E_ h)(ha:φ[n]?=a_ a)(rv:p_ x v)(e:FJ h n x=a_ o):
  ∃o',sX H a v o'/\o.isSome=o'.isSome/\∀p,o=a_ p->∃w,o'=a_ w/\p_ p w:=by
 unfold FJ at e;split at e
 ·rename_i kvs hk;split at e
  ·rename_i key ao;cases e
   let⟨ks,hH,rk⟩:=Y0 hk;let q:=xX rk key;rw[E1 rv ao];refine⟨nA ks key,sX.k hH,?_,λp hp=>?_⟩
   ·cases e1:Zk key <;> cases e2:nA ks key <;> rw[e1,e2]at q <;> first|rfl|exact q.elim
   ·rw[hp]at q;cases e2:nA ks key with
    |none=>rw[e2]at q;show q.elim
    |some w=>rw[e2]at q;show⟨w,rfl,q⟩
  ·cases e
 ·cases e
theorem Bj{q:PV}{x:V}(rh:E_ h)(rx:p_ p x)(ry:p_ q y)(e:M8 p q h=a_ b):
  (∃d a ds vs,y=.ref a/\(SqL C.K H a vs\/SqT C.K H a vs)/\Rep C.K H d x/\eO C.K H ds vs/\Q_ 0<=40/\b=ds.any λe=>eqD e d)\/∃a o,y=.ref a/\sX H a x o/\b=o.isSome:=by
 let go:∀{a:r_}{vs:x_ V}{ys:Y9 0},(SqL C.K H a vs\/SqT C.K H a vs)->A_ ys vs->FK p ys=a_ b->∃d a' ds vs,V.ref a=.ref a'/\(SqL C.K H a' vs\/SqT C.K H a' vs)/\Rep C.K H d x/\eO C.K H ds vs/\Q_ 0<=40/\b=ds.any λe=>eqD e d:=by
  intro a vs ys hs hr he;unfold FK at he;split at he
  ·rename_i d ds h1 h2;split at he
   ·rename_i hd;cases he
    show⟨d,a,ds,vs,rfl,hs,rx.rep h1,hr.reps h2,hd,rfl⟩
   ·cases he
  ·cases he
 unfold M8 at e;split at e
 ·let⟨a,vs,rfl,sa,ra⟩:=ry;show .inl (go (.inr sa) ra e)
 ·rename_i n;let⟨a,rfl,ha⟩:=ry;split at e
  ·rename_i ys hl;let⟨a2,vs,ar,sa,ra⟩:=cZ rh hl;rw[ha]at ar;cases ar;show .inl (go (.inl sa) ra e)
  ·cases e':FJ h n p with
   |none=>rw[e']at e;cases e
   |some o=>
    rw[e']at e;cases e
    let⟨o',g,i,_⟩:=tF rh ha rx e';show .inr ⟨a,o',rfl,g,i⟩
 ·let⟨a,vs,rfl,sa,ra⟩:=ry;show .inl (go (.inl sa.sq) ra e)
 ·cases e
theorem Vr:Y3 (VX .In) vIn:=λc=>((RP c.hu64 C.K c.K).or (RB c.hu C.K c.K)).imp λx y H Q h=>by
 let⟨φ,h,p,q,rh,rx,ry,po⟩:=h;let⟨b,e,po⟩:=po.ofB;rcases Bj rh rx ry e with⟨d,a,ds,vs,rfl,h1,h2,h3,h4,rfl⟩|⟨a,o,rfl,g,rfl⟩
 ·show .inl ⟨d,a,ds,vs,rfl,h1,h2,h3,h4,P1 rfl⟩
 ·show .inr (.inr ⟨a,o,rfl,g,P1 rfl⟩)
theorem OJ:Y3 (VX .NotIn) Bi:=λc=>((Ke c.hu64 C.K c.K).or (Kb c.hu C.K c.K)).imp λx y H Q h=>by
 let⟨φ,h,p,q,rh,rx,ry,po⟩:=h;let⟨b,e,po⟩:=po.ofB;cases e':M8 p q h with
 |none=>rw[e']at e;cases e
 |some b'=>
  rw[e']at e;cases e
  rcases Bj rh rx ry e' with⟨d,a,ds,vs,rfl,h1,h2,h3,h4,rfl⟩|⟨a,o,rfl,g,rfl⟩
  ·show .inl ⟨d,a,ds,vs,rfl,h1,h2,h3,h4,P1 rfl⟩
  ·show .inr (.inr ⟨a,o,rfl,g,P1 rfl⟩)
def xY:PV->Bool
 |.non=>true
 |_=>false
def vIs:PV->PV->PH->Rs PV:=λx y h=>match y with
 |.non=>.ok (.bl (xY x)) h
 |.bl b=>match x with
  |.bl a=>.ok (.bl (a == b)) h
  |_=>.bad
 |_=>.bad
def xZ:PV->PV->PH->Rs PV:=λx y h=>match y with
 |.non=>.ok (.bl (!xY x)) h
 |.bl b=>match x with
  |.bl a=>.ok (.bl (!(a == b))) h
  |_=>.bad
 |_=>.bad
theorem RV.isNon(r:p_ p v):decide (v=.non)=xY p:=by
 cases p with
 |non=>cases r;rfl
 |tup xs=>let⟨a,vs,rfl,_⟩:=r;rfl
 |ref n=>let⟨a,rfl,_⟩:=r;rfl
 |fl xs=>let⟨a,vs,rfl,_⟩:=r;rfl
 |_=>cases r;rfl
theorem Jg:Y3 (VX .IsNot) xZ:=λc=>(Od.or (λFR s σ H x y v u Q I rx ry(h:∃a b,x=.bl a/\y=.bl b/\Q (.bl (!(a == b))) H)=>by let⟨a,b,rfl,rfl,q⟩:=h;cases rx;cases ry;show PyProof.Rows.isnot_bool ⟨.bl _,H,I,rfl,q⟩)).imp λx y H Q h=>by
 let⟨φ,h,p,q,rh,rx,ry,po⟩:=h;unfold xZ at po;cases q with
 |non=>
  cases ry
  refine .inl ⟨rfl,?_⟩;rw[rx.isNon];show P1 rfl
 |bl b=>
  cases p with
  |bl a=>cases rx;cases ry;show .inr ⟨a,b,rfl,rfl,P1 rfl⟩
  |_=>exact po.elim
 |_=>exact po.elim
def tru(x:PV)(h:PH):ZH 0:=match x with
 |.non=>.ok false h
 |.bl b=>.ok b h
 |.int i=>.ok (i != 0) h
 |.str y=>if y.length<=zf then .ok ((y.length:Int) != 0) h else .bad
 |.tup xs=>.ok (!xs.isEmpty) h
 |.ref n=>match aZ h n with
  |some xs=>.ok (!xs.isEmpty) h
  |none=>match h[n]? with
   |some (.dK kvs)=>.ok (!kvs.isEmpty) h
   |_=>.bad
 |.fl xs=>.ok (!xs.isEmpty) h
 |.ty _=>.bad
theorem RVs.isEmpty(r:ZQ 0):(!vs.isEmpty)=!xs.isEmpty:=by cases xs <;> cases vs <;> first|rfl|exact r.elim
theorem cX.ite{c:Prop}[Decidable c]{r:ZH 0}{Q:Bool->Hp->Prop}(h:cX C φ H (if c then r else .bad) Q):c/\cX C φ H r Q:=by
 by_cases hc:c
 ·rw[if_pos hc]at h;show⟨hc,h⟩
 ·rw[if_neg hc]at h;show h.elim
theorem cX.val{Q:Bool->Hp->Prop}(q:cX C φ H (.ok b h) Q)(rh:E_ h):Q b H:=q φ H zc (Kp.refl H) rh
theorem Ks{Q:Bool->Hp->Prop}(rh:E_ h)(rv:p_ p v)(po:cX C φ H (tru p h) Q):∃b,Hh C.K v H b/\Q b H:=by
 unfold tru at po;cases p with
 |non=>cases rv;show⟨_,rfl,po.val rh⟩
 |bl b=>cases rv;show⟨_,rfl,po.val rh⟩
 |int i=>cases rv;show⟨_,rfl,po.val rh⟩
 |str y=>cases rv;show⟨_,⟨po.ite.1,rfl⟩,po.ite.2.val rh⟩
 |tup xs=>let⟨a,vs,rfl,sa,ra⟩:=rv;show⟨_,.inr (.inl ⟨vs,sa,rfl⟩),by rw[ra.isEmpty];show po.val rh⟩
 |ref n=>
  let⟨a,rfl,ha⟩:=rv;dsimp only at po;cases e:aZ h n with
  |some xs=>rw[e]at po;let⟨a2,vs,ar,sa,ra⟩:=cZ rh e;rw[ha]at ar;cases ar;show⟨_,.inl ⟨vs,sa,rfl⟩,by rw[ra.isEmpty];show po.val rh⟩
  |none=>
   rw[e]at po;dsimp only at po;split at po
   ·rename_i kvs hk;let⟨ks,hH,rk⟩:=Y0 hk;refine⟨_,.inr (.inr ⟨ks,hH,rfl⟩),?_⟩;have:(!ks.isEmpty)=!kvs.isEmpty:=by cases rk <;> rfl
    rw[this];show po.val rh
   ·show po.elim
 |fl xs=>let⟨a,vs,rfl,sa,ra⟩:=rv;show⟨_,.inl ⟨vs,sa.sq,rfl⟩,by rw[ra.isEmpty];show po.val rh⟩
 |ty n=>exact po.elim
variable{C:MC}{k:Nat}{X:Cx}
def bW(m:Me):Ev->PH->ZH 0:=λδ h=>(m δ h).bind tru
variable{m:Me}
theorem HM{Q:Bool->Hp->Prop}(h:rdB C (bW m) σ H Q):rd C m σ H λv H1=>∃b,Hh C.K v H1 b/\Q b H1:=by let⟨φ,δ,h,rh,re,p⟩:=h;refine⟨φ,δ,h,rh,re,(post.bindB p).imp ?_⟩;rintro v H1 ⟨φ1,x,h1,p1,t1,ab,af,q1⟩;show Ks ab af q1
variable{mc:Me}{c':v_}{ir:CmpOp}
section
variable{a b:v_}{g g':PV->PV->PH->Rs PV}{ta tb:Ev->PH->ZH 0}
theorem vE(h:C_ e m)(he:∀whole,isTrue e X.env whole=(do let v <-whole;standAt e.pos;holding [v] (truthy v)):=by intro _;rfl):ST C k X e (bW m):=λc=>
 (Lr (h c) he).imp λσ H Q q=>by rw[c.K];exact HM q
theorem dB(ho:Y3 (VX op) g)(ha:C_ a ma)(hb:C_ b mb)(hm:behindInMarks op b=false:=by first|exact Ln _|rfl):ST C k X (.Compare a [op] [b] pos) (bW (aG g ma mb)):=λc=>by
 intro FR s σ H Q I h;let h:=Jc (HM h);refine wpAny_isTrue_Compare1 (thn (ha c FR s σ H _ I h) λv s1 ⟨x,H1,I1,r1,q1⟩=>thn (hb c FR s1 σ H1 _ I1 q1) λu s2 ⟨y,H2,I2,r2,q2⟩=>thn (ho c FR s2 σ H2 x y v u _ I2 r1 r2 q2) λw s3 ⟨z,H3,I3,r3,q3⟩=>?_) hm;rw[<-c.K]at q3;show Lq FR s3 σ H3 z w Q I3 r3 q3
def M9(z:PV)(h:PH):Rs PV:=match z with
 |.bl b=>.ok (.bl b) h
 |_=>.bad
def Mb(g g':PV->PV->PH->Rs PV)(ma mb mc:Me):Me:=λδ h=>(ma δ h).bind λx h1=>(mb δ h1).bind λy h2=>(g x y h2).bind λz h3=>match z with
 |.bl true=>(mc δ h3).bind λw h4=>(g' y w h4).bind M9
 |.bl false=>.ok (.bl false) h3
 |_=>.bad
theorem RY{Q:VK}(h:rd C (Mb g g' ma mb mc) σ H Q):Lo (r2 C g) (r2 C g') (rd C ma) (rd C mb) (rd C mc) σ H λv H1=>∃b,v=.bl b/\Q v H1:=by
 let⟨φ,δ,h,rh,re,p⟩:=h;refine⟨φ,δ,h,rh,re,(post.bind p).imp ?_⟩;rintro v H1 ⟨φ1,x,h1,p1,t1,ab,af,q1⟩;refine⟨φ1,δ,h1,ab,S_ 0,(post.bind q1).imp ?_⟩;rintro u H2 ⟨φ2,y,h2,p2,t2,aj,bo,q2⟩;refine⟨φ2,h2,x,y,aj,af.mono p2 t2,bo,(post.bind q2).imp ?_⟩;rintro w H3 ⟨φ3,z,h3,p3,t3,ax,rv3,q3⟩;cases z with
 |bl b=>
  cases rv3
  refine⟨b,rfl,?_⟩;cases b with
  |false=>exact Ft ⟨false,rfl,q3.val ax rfl⟩
  |true=>
   refine Fu ⟨φ3,δ,h3,ax,re.mono ((p1.trans p2).trans p3) ((t1.trans t2).trans t3),(post.bind q3).imp ?_⟩;rintro w4 H4 ⟨φ4,z4,h4,p4,t4,rh4,rv4,q4⟩;refine⟨φ4,h4,y,z4,rh4,bo.mono (p3.trans p4) (t3.trans t4),rv4,(post.bind q4).imp ?_⟩;rintro w5 H5 ⟨φ5,z5,h5,p5,t5,rh5,rv5,q5⟩;cases z5 with
   |bl b=>cases rv5;show⟨b,rfl,q5.val rh5 rfl⟩
   |_=>exact q5.elim
 |_=>exact q3.elim
theorem U2(ho:Y3 (VX op) g)(br:Y3 (VX ir) g')(ha:C_ a ma)(hb:C_ b mb)(hc:C_ c' mc)(hm:lastMarks [op,ir] [b,c']=false:=by with_unfolding_all rfl):
  ST C k X (.Compare a [op,ir] [b,c'] pos) (bW (Mb g g' ma mb mc)):=λc=>by
 intro FR s σ H Q I h;let h':=RY (HM h);refine Xg (Lp (ho c) (br c) (ha c) (hb c) (hc c) hm FR s σ H (λb H1=>∃b',Hh C.K (.bl b) H1 b'/\Q b' H1) I ?_) (λb s1 ⟨H1,I1,b',(e:b'=b),q⟩=>⟨H1,I1,by rw[<-e];show q⟩) λ_ _ z=>z;let⟨φ,δ,hh,rh,re,p⟩:=h';refine⟨φ,δ,hh,rh,re,p.imp ?_⟩;rintro v H1 ⟨φ1,δ1,h1,ab,qg,p1⟩;refine⟨φ1,δ1,h1,ab,qg,p1.imp ?_⟩;rintro u H2 ⟨φ2,h2,x,y,aj,rx,ry,p2⟩;refine⟨φ2,h2,x,y,aj,rx,ry,p2.imp ?_⟩;rintro w H3 ⟨b,e,p3⟩;refine⟨b,e,?_⟩;cases b with
 |false=>
  have:∃b,V.bl false=V.bl b/\∃b_1,Hh C.K (V.bl false) H3 b_1/\Q b_1 H3:=by simpa using p3
  let⟨b,e1,q⟩:=this;show Ft ⟨false,rfl,q⟩
 |true=>
  let p3:rd C mc σ H3 λw' H4=>r2 C g' u w' H4 λv H1=>∃b,v=V.bl b/\∃b_1,Hh C.K v H1 b_1/\Q b_1 H1:=by simpa using p3
  let⟨φ3,δ3,h3,ax,f9,p3⟩:=p3;refine Fu ⟨φ3,δ3,h3,ax,f9,p3.imp ?_⟩;rintro w4 H4 ⟨φ4,h4,x4,y4,rh4,rx4,ry4,p4⟩;refine⟨φ4,h4,x4,y4,rh4,rx4,ry4,p4.imp ?_⟩;rintro w5 H5 ⟨b,rfl,q⟩;show⟨b,rfl,q⟩
def pE(t:Ev->PH->ZH 0):Ev->PH->ZH 0:=λδ h=>(t δ h).bind λb h1=>.ok (!b) h1
def VL(ta tb:Ev->PH->ZH 0):Ev->PH->ZH 0:=λδ h=>(ta δ h).bind λb h1=>match b with
 |true=>tb δ h1
 |false=>.ok false h1
def tG(ta tb:Ev->PH->ZH 0):Ev->PH->ZH 0:=λδ h=>(ta δ h).bind λb h1=>match b with
 |true=>.ok true h1
 |false=>tb δ h1
theorem cX.imp{r:ZH 0}{Q Q':Bool->Hp->Prop}(h:cX C φ H r Q)(i:∀v H',Q v H'->Q' v H'):cX C φ H r Q':=by
 cases r with
 |ok a h'=>exact λφ' H' p t rh=>i a H' (h φ' H' p t rh)
 |exc a h'=>exact h
 |bad=>exact h
theorem zN(h:ST C k X e ta):ST C k X (.UnaryOp .Not e pos) (pE ta):=λc=>(QY (h c)).imp λσ H Q q=>by let⟨φ,δ,h,rh,re,p⟩:=q;refine⟨φ,δ,h,rh,re,(cX.bindB p).imp ?_⟩;rintro b H1 ⟨φ1,h1,p1,t1,ab,q1⟩;show q1.val ab
def SW(C:MC)(k:Nat)(X:Cx)(e:v_)(m:Ev->PH->ZH 0):Prop:=Y4 X->PW X e (rdB C m)
theorem SW.t(h:SW C k X e ta):ST C k X e ta:=λc=>(h c).pt
theorem PW.imp{t t':TT}(h:PW X e t)(i:∀σ H Q,t' σ H Q->t σ H Q):PW X e t':=λw FR s σ H Q I q=>h w FR s σ H Q I (i σ H Q q)
theorem De(ha:ST C k X a ta):SW C k X (.BoolOp .Or [a] pos) ta:=λc=>QX (ha c)
theorem w_or{rest:x_ v_}(ha:ST C k X a ta)(hb:SW C k X (.BoolOp .Or (b::rest) pos) tb):SW C k X (.BoolOp .Or (a::b::rest) pos) (tG ta tb):=λc=>PW.imp (Tb (ha c) (hb c)) λσ H Q q=>by
 let⟨φ,δ,h,rh,re,p⟩:=q;refine⟨φ,δ,h,rh,re,(cX.bindB p).imp ?_⟩;rintro b H1 ⟨φ1,h1,p1,t1,ab,q1⟩;cases b with
 |true=>exact Fu (q1.val ab)
 |false=>exact Ft ⟨φ1,δ,h1,ab,S_ 0,q1⟩
def FL(ma mb:Me):Me:=λδ h=>(ma δ h).bind λx h1=>match x with
 |.bl true=>mb δ h1
 |.bl false=>.ok (.bl false) h1
 |_=>.bad
theorem Qz{op}(h:C_ a ma):C_ (.BoolOp op [a] pos) ma:=λc=>QZ (h c)
theorem QA{rest:x_ v_}(ha:C_ a ma)(hb:C_ (.BoolOp .And (b::rest) pos) mb):C_ (.BoolOp .And (a::b::rest) pos) (FL ma mb):=λc=>(OD (ha c) (hb c)).imp λσ H Q q=>by
 let⟨φ,δ,h,rh,re,p⟩:=q;refine⟨φ,δ,h,rh,re,(post.bind p).imp ?_⟩;rintro v H1 ⟨φ1,x,h1,p1,t1,ab,rv,q1⟩;cases x with
 |bl b=>
  cases rv
  cases b with
  |true=>exact Fu ⟨φ1,δ,h1,ab,S_ 0,q1⟩
  |false=>exact Ft (q1.val ab rfl)
 |_=>exact q1.elim
def mIf(t:Ev->PH->ZH 0)(ma mb:Me):Me:=λδ h=>(t δ h).bind λb h1=>match b with
 |true=>ma δ h1
 |false=>mb δ h1
theorem E2(ht:ST C k X c' ta)(ha:C_ a ma)(hb:C_ b mb):C_ (.IfExp c' a b pos) (mIf ta ma mb):=λc=>(Lg (ht c) (ha c) (hb c)).imp λσ H Q q=>by
 let⟨φ,δ,h,rh,re,p⟩:=q;refine⟨φ,δ,h,rh,re,(cX.bind p).imp ?_⟩;rintro b H1 ⟨φ1,h1,p1,t1,ab,q1⟩;cases b with
 |true=>exact Fu ⟨φ1,δ,h1,ab,S_ 0,q1⟩
 |false=>exact Ft ⟨φ1,δ,h1,ab,S_ 0,q1⟩
end
theorem RVs.atI{i:Int}{x:PV}(r:ZQ 0)(e:L2.atI xs i=a_ x):∃v,L2.atI vs i=a_ v/\p_ x v:=by
 unfold L2.atI at e⊢;rw[<-r.length];cases q:ixN xs.length i with
 |none=>rw[q]at e;cases e
 |some j=>rw[q]at e;show r.at e
def ofO(o:y_ PV)(h:PH):Rs PV:=match o with
 |some p=>.ok p h
 |none=>.bad
def vIx:PV->PV->PH->Rs PV:=λx y h=>match x with
 |.str z=>(match y with
  |.int i=>if z.length<=zf then ofO ((atI z.cps.toList i).map λc=>.str ⟨#[c]⟩) h else .bad
  |_=>.bad)
 |.tup xs=>(match y with
  |.int i=>ofO (atI xs i) h
  |_=>.bad)
 |.fl xs=>(match y with
  |.int i=>ofO (atI xs i) h
  |_=>.bad)
 |.ref n=>(match aZ h n with
  |some xs=>(match y with
   |.int i=>ofO (atI xs i) h
   |_=>.bad)
  |none=>(match FJ h n y with
   |some o=>ofO o h
   |none=>.bad))
 |_=>.bad
theorem post.ofO{o:y_ PV}{Q:VK}(q:O_ (ofO o h) Q):∃p,o=a_ p/\O_ (.ok p h) Q:=by
 cases o with
 |none=>exact q.elim
 |some b=>exact⟨b,rfl,q⟩
theorem U3{x:V}{Q:VK}(h:r2 C vIx x y H Q):TN C.K x y H Q:=by
 let⟨φ,h,p,q,rh,rx,ry,po⟩:=h;unfold vIx at po;cases p with
 |str z=>
  cases rx
  cases q with
  |int i=>
   cases ry
   let⟨hz,po⟩:=po.ite;let⟨p,e,po⟩:=po.ofO;cases e':atI z.cps.toList i with
   |none=>rw[e']at e;cases e
   |some c=>rw[e']at e;cases e;show⟨hz,c,e',P1 rfl⟩
  |_=>exact po.elim
 |tup xs=>
  let⟨a,vs,rfl,sa,ra⟩:=rx;cases q with
  |int i=>
   cases ry
   let⟨p,e,po⟩:=po.ofO;let⟨v,hv,rv⟩:=ra.atI e;show .inl ⟨vs,i,v,rfl,.inr sa,hv,P1 rv⟩
  |_=>exact po.elim
 |fl xs=>
  let⟨a,vs,rfl,sa,ra⟩:=rx;cases q with
  |int i=>
   cases ry
   let⟨p,e,po⟩:=po.ofO;let⟨v,hv,rv⟩:=ra.atI e;show .inl ⟨vs,i,v,rfl,.inl sa.sq,hv,P1 rv⟩
  |_=>exact po.elim
 |ref n=>
  let⟨a,rfl,ha⟩:=rx;dsimp only at po;cases e:aZ h n with
  |some xs=>
   rw[e]at po;let⟨a2,vs,ar,sa,ra⟩:=cZ rh e;rw[ha]at ar;cases ar;cases q with
   |int i=>
    cases ry
    let⟨p,e,po⟩:=po.ofO;let⟨v,hv,rv⟩:=ra.atI e;show .inl ⟨vs,i,v,rfl,.inl sa,hv,P1 rv⟩
   |_=>exact po.elim
  |none=>
   rw[e]at po;dsimp only at po;cases e':FJ h n q with
   |none=>rw[e']at po;show po.elim
   |some o=>rw[e']at po;let⟨p,eo,po⟩:=po.ofO;let⟨o',g,_,hp⟩:=tF rh ha ry e';let⟨w,rfl,cf⟩:=hp p eo;show .inr ⟨w,g,P1 cf⟩
 |_=>exact po.elim
variable{items:Y6 0}{vl vu:qe}
theorem sH{t sl:r_}{lo hi:Zz 0}(ht:IsTup s.heap t items)(hs:s.heap.IsSliceOf sl vl vu .none)(pl:IsPart vl lo)(pu:IsPart vu hi)(hw:HT.sIx items.size 0 lo=0/\HT.sIx items.size items.size hi=items.size)(h:Q (.ref t) s):B_ (getItem (.ref t) (.ref sl)) Q E s:=by
 let⟨os,jk,l9,ig⟩:=id hs;let qd:s.TypeIs (.ref sl) "slice" := ⟨os,jk,l9⟩;unfold getItem
 try with_reducible refine WV ?_
 first|refine yx (yz ?_)|skip
 refine yx (wpAny_sequenceKey ht.typeIs nofun ?_);refine yx (WE (name:=WM "__getitem__") ht.typeIs WA
  (Ws WA ht.typeIs entry_tuple_getitem ?_ (args_tuple_getitem _ _)))
 change I_ (Yv (.ref t) >>= _) _ _ s
 refine yx (tupleItemsOf_ ht ?_);refine yx (wpAny_typeOf qd ?_);rw[if_pos nofun];refine yx (HT.sliceApplied_gen hs pl pu ?_);let jv:((((HT.sIx items.size 0 lo:Nat):Int) == 0&&(1:Int) == 1&&(HT.sIx items.size items.size hi-HT.sIx items.size 0 lo) == items.size)=true):=by rw[hw.1,hw.2];simp
 change I_ (if(((HT.sIx items.size 0 lo:Nat):Int) == 0&&(1:Int) == 1&&(HT.sIx items.size items.size hi-HT.sIx items.size 0 lo) == items.size)=true then _ else _) _ _ s
 rw[if_pos jv];refine yx ?_;unfold Builtin.Tuple.tupleIsExact;refine yx (wpAny_typeOf ht.typeIs (yz ?_));rw[if_pos nofun];refine yx (YN ?_);show yz ⟨_,rfl,yz h⟩
variable{C:MC}{k:Nat}{X:Cx}
def jN{α:Type}(xs:x_ α)(lo hi:Zz 0):x_ α:=(xs.drop (W_ 0 lo)).take (W_ xs.length hi-W_ 0 lo)
theorem RVs.cut(r:ZQ 0)(lo hi:Zz 0):A_ (jN xs lo hi) (Fs vs lo hi):=by unfold jN Fs;rw[<-r.length];show(r.drop _).take _
def vSl:PV->Zz 0->Zz 0->PH->Rs PV:=λx lo hi h=>match x with
 |.str z=>if z.length<=zf then .ok (.str (W2 z lo hi)) h else .bad
 |.tup xs=>.ok (.tup (jN xs lo hi)) h
 |.ref n=>match aZ h n with
  |some xs=>.ok (.ref h.length) (h++[.lst (jN xs lo hi)])
  |none=>.bad
 |.fl xs=>.ok (.ref h.length) (h++[.lst (jN xs lo hi)])
 |_=>.bad
def U4(K:y0):V->Zz 0->Zz 0->Hp->VK->Prop:=λx lo hi H Q=>∃a xs,x=.ref a/\ZD a xs/\(W_ 0 lo=0/\W_ xs.length hi=xs.length)/\Q (.ref a) H
theorem Mc:SlR X (U4 X.K):=by
 intro FR s σ H x v vl vu lo hi sl Q I rx hs pl pu h;let⟨a,xs,rfl,hx,hw,q⟩:=h;cases rx
 let⟨its,r,ht,hz⟩:=I.tuple hx;let hlen:its.toArray.size=xs.length:=by rw[zb];show r.length.symm
 refine⟨"tuple",_,WA.lookup,ht.typeIs,?_⟩;show sH ht hs pl pu (by rw[hlen];show hw) ⟨.ref a,H,I,rfl,q⟩
variable{r r':V->Zz 0->Zz 0->Hp->VK->Prop}
theorem SlR.imp(h:SlR X r)(i:∀x lo hi H Q,r' x lo hi H Q->r x lo hi H Q):SlR X r':=λFR s σ H x v vl vu lo hi sl Q I rx hs pl pu q=>Zd x v vl vu lo hi sl Q I rx hs pl pu (i x lo hi H Q q)
def r3(C:MC)(g:PV->Zz 0->Zz 0->PH->Rs PV):V->Zz 0->Zz 0->Hp->VK->Prop:=λx lo hi H Q=>∃φ h p,E_ h/\p_ p x/\O_ (g p lo hi h) Q
theorem RZ(hK:X.K=C.K):SlR X (r3 C vSl):=by
 let e:SlR X (λx lo hi H Q=>TK x lo hi H Q\/Tt C.K x lo hi H Q\/Tw C.K x lo hi H Q\/U4 C.K x lo hi H Q):=by rw[<-hK];show Rx.or (Rk.or (Oq.or Mc))
 refine e.imp λx lo hi H Q h=>?_;let⟨φ,h,p,rh,rv,po⟩:=h;unfold vSl at po;cases p with
 |str z=>cases rv;show .inl ⟨z,rfl,po.ite.1,po.ite.2.val rh rfl⟩
 |tup xs=>
  let⟨a,vs,rfl,sa,ra⟩:=rv;by_cases hw:HT.sIx vs.length 0 lo=0/\HT.sIx vs.length vs.length hi=vs.length
  ·refine .inr (.inr (.inr ⟨a,vs,rfl,sa,hw,P1 ⟨a,vs,rfl,sa,?_⟩⟩));let e:jN xs lo hi=xs:=by unfold jN;rw[ra.length,hw.1,hw.2,List.drop_zero,Nat.sub_zero,<-ra.length,Ya]
   rw[e];show ra
  ·show .inr (.inl ⟨a,vs,rfl,sa,hw,λp hp=>po.tnew rh (ra.cut lo hi) hp⟩)
 |ref n=>
  let⟨a,rfl,ha⟩:=rv;dsimp only at po;cases e:aZ h n with
  |none=>rw[e]at po;show po.elim
  |some xs=>rw[e]at po;let⟨a2,vs,ar,sa,ra⟩:=cZ rh e;rw[ha]at ar;cases ar;show .inr (.inr (.inl ⟨a,vs,rfl,sa,λp hp=>po.lnew rh (ra.cut lo hi) hp⟩))
 |fl xs=>let⟨a,vs,rfl,sa,ra⟩:=rv;show .inr (.inr (.inl ⟨a,vs,rfl,sa.sq,λp hp=>po.lnew rh (ra.cut lo hi) hp⟩))
 |_=>exact po.elim
abbrev Mo:=Ev->PH->Rs (Zz 0)
def zO(C:MC)(φ:x_ r_)(H:Hp)(r:Rs (Zz 0))(Q:Zz 0->Hp->Prop):Prop:=match r with
 |.ok b h=>∀φ' H',φ<+:φ'->Zu H'->Zh h->Q b H'
 |.exc x h=>∀φ' H',φ<+:φ'->Zu H'->Zh h->C.ex φ' H' x
 |.bad=>False
def rdO(C:MC)(m:Mo):TO:=λσ H Q=>∃φ δ h,E_ h/\Y7 0/\zO C φ H (m δ h) Q
def SO(C:MC)(k:Nat)(X:Cx)(e:y_ v_)(m:Mo):Prop:=Y4 X->PO X e (rdO C m)
def qA:Mo:=λ_ h=>.ok b_ h
def mP(m:Me):Mo:=λδ h=>(m δ h).bind λx h1=>match x with
 |.int i=>.ok (a_ i) h1
 |_=>.bad
theorem oA:SO C k X b_ qA:=λc FR s σ H Q I h=>by let⟨φ,δ,h,rh,re,p⟩:=h;show Om FR s σ H Q I (p φ H zc (Kp.refl H) rh)
theorem kO(h:C_ e m):SO C k X (a_ e) (mP m):=λc FR s σ H Q I q=>by
 refine LQ (h c) FR s σ H Q I ?_;let⟨φ,δ,h,rh,re,p⟩:=q;refine⟨φ,δ,h,rh,re,?_⟩;unfold mP at p;cases e':m δ h with
 |ok x h1=>
  rw[e']at p;intro φ' v H' p' t' a7 aq;cases x with
  |int i=>cases aq;show p φ' H' p' t' a7
  |_=>exact p.elim
 |exc x h1=>rw[e']at p;show p
 |bad=>rw[e']at p;show p
def mSl(me:Me)(ml mh:Mo):Me:=λδ h=>(me δ h).bind λx h1=>(ml δ h1).bind λl h2=>(mh δ h2).bind λu h3=>vSl x l u h3
theorem zO.bind{r:Rs (Zz 0)}{f:Zz 0->PH->Rs PV}{Q:VK}(h:O_ (r.bind f) Q):zO C φ H r λb H1=>∃φ1 h1,φ<+:φ1/\Zu H1/\Zi 0/\post C φ1 H1 (f b h1) Q:=by
 cases r with
 |ok a h'=>exact λφ' H' p t rh=>⟨φ',h',p,t,rh,post.weak p t h⟩
 |exc a h'=>exact h
 |bad=>exact h
variable{Q':Zz 0->Hp->Prop}
theorem zO.imp{r:Rs (Zz 0)}{Q:Zz 0->Hp->Prop}(h:zO C φ H r Q)(i:∀v H',Q v H'->Q' v H'):zO C φ H r Q':=by
 cases r with
 |ok a h'=>exact λφ' H' p t rh=>i a H' (h φ' H' p t rh)
 |exc a h'=>exact h
 |bad=>exact h
variable{hi lo:y_ v_}{me:Me}{mh ml:Mo}{p2:Pos}
theorem Cy(he:C_ e me)(hl:SO C k X lo ml)(hh:SO C k X hi mh):C_ (.Subscript e (.Slice lo hi b_ p2) pos) (mSl me ml mh):=λc=>(LB (RZ c.K) (he c) (hl c) (hh c)).imp λσ H Q h=>by let⟨φ,δ,h,rh,re,p⟩:=h;refine⟨φ,δ,h,rh,re,(post.bind p).imp ?_⟩;rintro v H1 ⟨φ1,x,h1,p1,t1,ab,af,q1⟩;refine⟨φ1,δ,h1,ab,S_ 0,(zO.bind q1).imp ?_⟩;rintro l H2 ⟨φ2,h2,p2,t2,aj,q2⟩;refine⟨φ2,δ,h2,aj,re.mono (p1.trans p2) (t1.trans t2),(zO.bind q2).imp ?_⟩;rintro u H3 ⟨φ3,h3,p3,t3,ax,q3⟩;show⟨φ3,h3,x,ax,af.mono (p2.trans p3) (t2.trans t3),q3⟩
abbrev Ma:=Ev->PH->Rs (Y9 0)
def aE:Ma:=λ_ h=>.ok [] h
def aB(m:Me)(ms:Ma):Ma:=λδ h=>(m δ h).bind λx h1=>(ms δ h1).bind λxs h2=>.ok (x::xs) h2
theorem PA.imp{t t':TA}(h:PA X es t)(i:∀σ H Q,t' σ H Q->t σ H Q):PA X es t':=λpos FR s σ H Q I q=>h pos FR s σ H Q I (i σ H Q q)
theorem aH:SA C k X [] aE:=λc=>Hq.imp λσ H Q h=>by let⟨φ,δ,h,rh,re,p⟩:=h;show p φ [] H zc (Kp.refl H) rh trivial
theorem postA.imp{r:Rs (Y9 0)}{Q Q':x_ V->Hp->Prop}(h:postA C φ H r Q)(i:∀v H',Q v H'->Q' v H'):postA C φ H r Q':=by
 cases r with
 |ok a h'=>exact λφ' v H' p t rh rv=>i v H' (h φ' v H' p t rh rv)
 |exc a h'=>exact h
 |bad=>exact h
variable{ms:Ma}
theorem aC(he:C_ e m)(hs:SA C k X es ms)(hh:zw (e::es) X.env=(false,X_ 0)::U_ 0:=by rfl):SA C k X (e::es) (aB m ms):=λc=>(DL (he c) (hs c) hh).imp λσ H Q h=>by let⟨φ,δ,h,rh,re,p⟩:=h;refine⟨φ,δ,h,rh,re,(post.bindA p).imp ?_⟩;rintro v H1 ⟨φ1,x,h1,p1,t1,ab,af,q1⟩;refine⟨φ1,δ,h1,ab,S_ 0,(postA.bindA q1).imp ?_⟩;rintro vs H2 ⟨φ2,xs,h2,p2,t2,aj,bo,q2⟩;show q2 φ2 (v::vs) H2 zc (Kp.refl H2) aj ⟨af.mono p2 t2,bo⟩
def bL(ms:Ma):Me:=λδ h=>(ms δ h).bind λxs h1=>if xs.length<=zf then .ok (.tup xs) h1 else .bad
def dW(ms:Ma):Me:=λδ h=>(ms δ h).bind λxs h1=>if xs.length<=zf then .ok (.ref h1.length) (h1++[.lst xs]) else .bad
theorem cK{x1}(hs:SA C k X es ms):C_ (.Tuple es x1 pos) (bL ms):=λc=>(Rh (hs c)).imp λσ H Q h=>by let⟨φ,δ,h,rh,re,p⟩:=h;refine⟨φ,δ,h,rh,re,(postA.bind p).imp ?_⟩;rintro vs H1 ⟨φ1,xs,h1,p1,t1,ab,af,q1⟩;show⟨by rw[<-af.length];show q1.ite.1,λp hp=>q1.ite.2.tnew ab af hp⟩
theorem eY(hs:SA C k X es ms):C_ (.List es pos) (dW ms):=λc=>(Ri (hs c)).imp λσ H Q h=>by let⟨φ,δ,h,rh,re,p⟩:=h;refine⟨φ,δ,h,rh,re,(postA.bind p).imp ?_⟩;rintro vs H1 ⟨φ1,xs,h1,p1,t1,ab,af,q1⟩;show⟨by rw[<-af.length];show q1.ite.1,λp hp=>q1.ite.2.lnew ab af hp⟩
def mN:Me:=λ_ h=>.ok (.ref h.length) (h++[.dK []])
theorem lZ:C_ (.Dict [] [] pos) mN:=λc=>LM.imp λσ H Q h=>by let⟨φ,δ,h,rh,re,p⟩:=h;intro a ha;show p (φ++[a]) (.ref a) _ (Wx _ _) (Kp.new ha) (rh.new ha ⟨[],aX,.nil⟩) ⟨a,rfl,by rw[<-rh.len];simp⟩
def mCB(g:Y9 0->PH->Rs PV)(ms:Ma):Me:=λδ h=>(ms δ h).bind g
theorem QB{g:Y9 0->PH->Rs PV}{Q:VK}(h:rd C (mCB g ms) σ H Q):tCB (rL C g) (rdA C ms) σ H Q:=by let⟨φ,δ,h,rh,re,p⟩:=h;refine⟨φ,δ,h,rh,re,(postA.bind p).imp ?_⟩;rintro vs H1 ⟨φ1,xs,h1,p1,t1,ab,af,q1⟩;show⟨φ1,h1,xs,ab,af,q1⟩
theorem eZ{p:Pos}{id:String}{g:Y9 0->PH->Rs PV}(hc:vD C k X (.builtin id) g)(hv:XD x=a_ (.builtin id))(ha:SA C k X (e::es) ms)(hb:x∈C.bs:=by decide)(hg:Gl X x:=by rfl)(hn:x≠"__name__" := by decide)(bg:(x == ("__debug__" : Str))=false:=by decide)(he:zw (e::es) X.env=(false,X_ 0)::U_ 0:=by rfl)(ba:(Ze (U_ 0)).any (·.1)=false:=by rfl):C_ (.Call (.Name x p) (e::es) [] pos) (mCB g ms):=λc=>(Lz (hc c) hg (c.bn x hb) hv (ha c) hn bg he ba).imp λσ H Q h=>QB h
variable{T:String}
theorem nD{p:Pos}{g:Y9 0->PH->Rs PV}(hc:vD C k X (.type T) g)(hv:XD x=a_ (.type T))(ha:SA C k X (e::es) ms)(hb:x∈C.bs:=by decide)(hg:Gl X x:=by rfl)(hn:x≠"__name__" := by decide)(bg:(x == ("__debug__" : Str))=false:=by decide)(he:zw (e::es) X.env=(false,X_ 0)::U_ 0:=by rfl)(ba:(Ze (U_ 0)).any (·.1)=false:=by rfl):C_ (.Call (.Name x p) (e::es) [] pos) (mCB g ms):=λc=>(K3 (hc c) hg (c.bn x hb) hv (ha c) hn bg he ba).imp λσ H Q h=>QB h
def spM(C:MC)(n:Nat)(f:Fn):Sp:=λvs H Q _=>∃φ h ps,E_ h/\A_ ps vs/\ps.length=n/\O_ (f ps h) Q
def dF(n:Nat)(f:Fn)(ms:Ma):Me:=λδ h=>(ms δ h).bind λps h1=>if ps.length=n then f ps h1 else .bad
variable{j:Nat}
theorem s_call{p:Pos}{f:Fn}(D:Def C.K X.mg x st a fd ps)(G:M_ a fd ps (spM C n f))(ha:SA C k X (e::es) ms)(hj:j<=k:=by decide)(hg:Gl X x:=by rfl)(bg:(x == ("__debug__" : Str))=false:=by decide)(he:zw (e::es) X.env=(false,X_ 0)::U_ 0:=by rfl)(ba:(Ze (U_ 0)).any (·.1)=false:=by rfl):
  C_ (.Call (.Name x p) (e::es) [] pos) (dF n f ms):=λc=>by
 let e1:=c.K;let D':Def X.K X.mg x st a fd ps:=by rw[e1];show D
 let G':H_ CX0 j a fd ps (spM C n f):=by rw[e1];show G
 refine(TV D' G' (c.room.mono hj) (ha c) hg bg he ba).imp λσ H Q h=>?_;let⟨φ,δ,h,rh,re,p⟩:=h;refine⟨φ,δ,h,rh,re,(postA.bind p).imp ?_⟩;rintro vs H1 ⟨φ1,xs,h1,p1,t1,ab,af,q1⟩;refine⟨φ1,h1,xs,ab,by rw[Xk];show af,q1.ite.1,q1.ite.2⟩
def qB:Y9 0->PH->Rs PV:=λxs h=>match xs with
 |[.str y]=>if y.length<=zf then .ok (.int y.length) h else .bad
 |[.tup ys]=>.ok (.int ys.length) h
 |[.fl ys]=>.ok (.int ys.length) h
 |[.ref n]=>match aZ h n with
  |some ys=>.ok (.int ys.length) h
  |none=>match h[n]? with
   |some (.dK kvs)=>.ok (.int kvs.length) h
   |_=>.bad
 |_=>.bad
theorem RVs.one{x:PV}(r:A_ [x] vs):∃v,vs=[v]/\p_ x v:=by
 match vs,r with
 |[v],⟨h,_⟩=>exact⟨v,rfl,h⟩
 |[],h=>exact h.elim
 |_::_::_,⟨_,h⟩=>exact h.elim
theorem RVs.two{x y:PV}(r:A_ [x,y] vs):∃v w,vs=[v,w]/\p_ x v/\p_ y w:=by
 match vs,r with
 |[v,w],⟨h,h',_⟩=>exact⟨v,w,rfl,h,h'⟩
 |[],h=>exact h.elim
 |[_],⟨_,h⟩=>exact h.elim
 |_::_::_::_,⟨_,_,h⟩=>exact h.elim
theorem FM:vD C k X (.builtin "len") qB:=λc=>(Kc C.K c.K).imp λvs H Q h=>by
 let⟨φ,h,ps,rh,rv,po⟩:=h;unfold qB at po;split at po
 ·let⟨v,rfl,rx⟩:=rv.one;cases rx
  show⟨po.ite.1,po.ite.2.val rh rfl⟩
 ·let⟨v,rfl,rx⟩:=rv.one;let⟨a,vs,rfl,sa,ra⟩:=rx;show .inl ⟨vs,.inr sa,by rw[<-ra.length];show P1 rfl⟩
 ·let⟨v,rfl,rx⟩:=rv.one;let⟨a,vs,rfl,sa,ra⟩:=rx;show .inl ⟨vs,.inl sa.sq,by rw[<-ra.length];show P1 rfl⟩
 ·rename_i n;let⟨v,rfl,rx⟩:=rv.one;let⟨a,rfl,ha⟩:=rx;split at po
  ·rename_i ys e;let⟨a2,vs,ar,sa,ra⟩:=cZ rh e;rw[ha]at ar;cases ar;show .inl ⟨vs,.inl sa,by rw[<-ra.length];show P1 rfl⟩
  ·split at po
   ·rename_i kvs hk;let⟨ks,hH,rk⟩:=Y0 hk;refine .inr ⟨ks,hH,?_⟩;have:ks.length=kvs.length:=(Wt rk).symm;rw[this];show P1 rfl
   ·show po.elim
 ·show po.elim
def tH:Y9 0->PH->Rs PV:=λxs h=>match xs with
 |[.tup ys]=>.ok (.tup ys) h
 |[.fl ys]=>.ok (.tup ys) h
 |[.ref n]=>match aZ h n with
  |some ys=>.ok (.tup ys) h
  |none=>.bad
 |_=>.bad
theorem OK:vD C k X (.type "tuple") tH:=λc=>(Fz C.K c.K).imp λvs H Q h=>by
 let⟨φ,h,ps,rh,rv,po⟩:=h;unfold tH at po;split at po
 ·let⟨v,rfl,rx⟩:=rv.one;let⟨a,vs,rfl,sa,ra⟩:=rx;show⟨a,vs,rfl,.inr ⟨sa,P1 ⟨a,vs,rfl,sa,ra⟩⟩⟩
 ·let⟨v,rfl,rx⟩:=rv.one;let⟨a,vs,rfl,sa,ra⟩:=rx;show⟨a,vs,rfl,.inl ⟨sa.sq,λp hp=>po.tnew rh ra hp⟩⟩
 ·rename_i n;let⟨v,rfl,rx⟩:=rv.one;let⟨a,rfl,ha⟩:=rx;split at po
  ·rename_i ys e;let⟨a2,vs,ar,sa,ra⟩:=cZ rh e;rw[ha]at ar;cases ar;show⟨a,vs,rfl,.inl ⟨sa,λp hp=>po.tnew rh ra hp⟩⟩
  ·show po.elim
 ·show po.elim
def vF:Y9 0->PH->Rs PV:=λxs h=>match xs with
 |[.tup ys]=>.ok (.ref h.length) (h++[.lst ys])
 |[.fl ys]=>.ok (.ref h.length) (h++[.lst ys])
 |[.ref n]=>match aZ h n with
  |some ys=>.ok (.ref h.length) (h++[.lst ys])
  |none=>.bad
 |_=>.bad
theorem Bk:vD C k X (.type "list") vF:=λc=>(Hx C.K c.K).imp λvs H Q h=>by
 let⟨φ,h,ps,rh,rv,po⟩:=h;unfold vF at po;split at po
 ·let⟨v,rfl,rx⟩:=rv.one;let⟨a,vs,rfl,sa,ra⟩:=rx;show⟨a,vs,rfl,.inr sa,λp hp=>po.lnew rh ra hp⟩
 ·let⟨v,rfl,rx⟩:=rv.one;let⟨a,vs,rfl,sa,ra⟩:=rx;show⟨a,vs,rfl,.inl sa.sq,λp hp=>po.lnew rh ra hp⟩
 ·rename_i n;let⟨v,rfl,rx⟩:=rv.one;let⟨a,rfl,ha⟩:=rx;split at po
  ·rename_i ys e;let⟨a2,vs,ar,sa,ra⟩:=cZ rh e;rw[ha]at ar;cases ar;show⟨a,vs,rfl,.inl sa,λp hp=>po.lnew rh ra hp⟩
  ·show po.elim
 ·show po.elim
variable{C:MC}{k:Nat}{X:Cx}
def Rs.fl{α:Type}(r:Rs α)(f:α->PH->Fl):Fl:=match r with
 |.ok a h=>f a h
 |.exc x h=>.exc x h
 |.bad=>.bad
@[simp]theorem Rs.fl_ok{α:Type}(a:α)(h:PH)(f:α->PH->Fl):(Rs.ok a h).fl f=f a h:=(rfl)
theorem post.fl{r:Rs PV}{f:PV->PH->Fl}{D:Ends}(h:cY C φ H (r.fl f) D):O_ r λv H1=>∃φ1 p h1,φ<+:φ1/\Zu H1/\Zi 0/\RV C φ1 H1 p v/\cY C φ1 H1 (f p h1) D:=by
 cases r with
 |ok a h'=>exact λφ' v H' p t rh rv=>⟨φ',a,h',p,t,rh,rv,cY.weak p t h⟩
 |exc a h'=>exact h
 |bad=>exact h
theorem cX.fl{r:ZH 0}{f:Bool->PH->Fl}{D:Ends}(h:cY C φ H (r.fl f) D):cX C φ H r λb H1=>∃φ1 h1,φ<+:φ1/\Zu H1/\Zi 0/\cY C φ1 H1 (f b h1) D:=by
 cases r with
 |ok a h'=>exact λφ' H' p t rh=>⟨φ',h',p,t,rh,cY.weak p t h⟩
 |exc a h'=>exact h
 |bad=>exact h
theorem cY.nx{D:Ends}(q:cY C φ H (.nx δ h) D)(rh:E_ h)(re:Y7 0):D.nx σ H:=q φ σ H zc (Kp.refl H) rh re
theorem cY.rt{D:Ends}(q:cY C φ H (.rt p h) D)(rh:E_ h)(rv:p_ p v):D.rt v H:=q φ v H zc (Kp.refl H) rh rv
abbrev Mg:=PV->Ev->y_ Ev
abbrev Mgs:=Y9 0->Ev->y_ Ev
def rdG(C:MC)(t:Mg):TG:=λv σ H Q=>∃φ δ h p δ',E_ h/\Y7 0/\p_ p v/\t p δ=a_ δ'/\∀σ',RE C φ H δ' σ'->Q σ' H
def Vs(C:MC)(t:Mgs):TGs:=λvs σ H Q=>∃φ δ h ps δ',E_ h/\Y7 0/\A_ ps vs/\t ps δ=a_ δ'/\∀σ',RE C φ H δ' σ'->Q σ' H
def SG(C:MC)(k:Nat)(X:Cx)(e:v_)(t:Mg):Prop:=Y4 X->PG X e (rdG C t)
def SGs(C:MC)(k:Nat)(X:Cx)(es:x_ v_)(t:Mgs):Prop:=Y4 X->PGs X es (Vs C t)
def gN(i:Nat):Mg:=λp δ=>a_ (δ.set i (a_ p))
def gNl:Mgs:=λps δ=>match ps with
 |[]=>a_ δ
 |_::_=>b_
def gCn(t:Mg)(u:Mgs):Mgs:=λps δ=>match ps with
 |p::r=>(t p δ).bind (u r)
 |[]=>b_
def gTp(n:Nat)(u:Mgs):Mg:=λp δ=>match p with
 |.tup ps=>if ps.length=n then u ps δ else b_
 |_=>b_
theorem PG.imp{t t':TG}(h:PG X e t)(i:∀v σ H Q,t' v σ H Q->t v σ H Q):PG X e t':=λFR s σ H v u Q I r q=>Zd v u Q I r (i v σ H Q q)
theorem PGs.imp{t t':TGs}(h:PGs X es t)(i:∀v σ H Q,t' v σ H Q->t v σ H Q):PGs X es t':=λFR s σ H v u Q I r q=>Zd v u Q I r (i v σ H Q q)
theorem aY(hN:X.N.Nodup)(hi:X.N[i]?=a_ x:=by rfl)(hx:Loc X.env.scope x:=by first|exact Or.inl rfl|exact Or.inr rfl)(hf:X.fn x=true\/YZ 0=a_ .local:=by first|exact .inl rfl|exact .inr rfl):SG C k X (.Name x pos) (gN i):=λc=>
 (Oa hN hi hx hf).imp λv σ H Q h=>by
  let⟨φ,δ,h,p,δ',rh,re,rv,e,q⟩:=h;cases e
  show q _ (re.set rv i)
theorem vG:SGs C k X [] gNl:=λc=>Ob.imp λv σ H Q h=>by
 let⟨φ,δ,h,ps,δ',rh,re,rv,e,q⟩:=h;cases ps with
 |nil=>
  cases e
  cases v with
  |nil=>exact⟨rfl,q σ re⟩
  |cons=>exact rv.elim
 |cons=>cases e
theorem cP{t:Mg}{u:Mgs}(h1:SG C k X e t)(h2:SGs C k X es u)(hs:(XB (e::es) X.env).map (·.2)=assign e X.env::(XB es X.env).map (·.2):=by rfl):SGs C k X (e::es) (gCn t u):=λc=>
 (Lj (h1 c) (h2 c) hs).imp λvs σ H Q h=>by
  let⟨φ,δ,h,ps,δ',rh,re,rv,e,q⟩:=h;cases ps with
  |nil=>cases e
  |cons p r=>
   cases vs with
   |nil=>exact rv.elim
   |cons v vs=>
    let⟨δ1,e1,e2⟩:=Option.bind_eq_some_iff.mp (show(t p δ).bind (u r)=a_ δ' from e)
    show⟨v,vs,rfl,φ,δ,h,p,δ1,rh,re,rv.1,e1,λσ' nv=>⟨φ,δ1,h,r,δ',rh,nv,rv.2,e2,q⟩⟩
theorem vH{u:Mgs}(h:SGs C k X es u)(hn:(XB es X.env).length=n:=by rfl)(d0:(XB es X.env).findIdx? (·.1)=b_:=by rfl):SG C k X (.Tuple es j pos) (gTp n u):=λc=>
 (gT C.K c.K c.calm (h c) hn d0).imp λv σ H Q h=>by
  let⟨φ,δ,h,p,δ',rh,re,rv,e,q⟩:=h;cases p with
  |tup ps=>
   let⟨a,vs,rfl,sa,ra⟩:=rv;by_cases hl:ps.length=n
   ·let e':u ps δ=a_ δ':=by have:(if ps.length=n then u ps δ else b_)=a_ δ':=e;rw[if_pos hl]at this;show this
    show⟨a,vs,rfl,sa,by rw[<-ra.length];show hl,φ,δ,h,ps,δ',rh,re,ra,e',q⟩
   ·have:(if ps.length=n then u ps δ else b_)=a_ δ':=e;rw[if_neg hl]at this;cases this
  |_=>cases e
theorem PS.imp{t t':TS}(h:PS X st t)(i:∀D σ H,t' D σ H->t D σ H):PS X st t':=λFR s σ H D I q=>Zd D I (i D σ H q)
theorem PSs.imp{st:x_ w_}{t t':TS}(h:PSs X st t)(i:∀D σ H,t' D σ H->t D σ H):PSs X st t':=λFR s σ H D I q=>Zd D I (i D σ H q)
def aU(a b:Ms):Ms:=λδ h=>match a δ h with
 |.nx δ1 h1=>b δ1 h1
 |r=>r
def iL:Ms:=λδ h=>.nx δ h
def S0:Ms:=λδ h=>.ct δ h
def bZ(i:Nat)(m:Me):Ms:=λδ h=>(m δ h).fl λp h1=>.nx (δ.set i (a_ p)) h1
def HP(m:Me)(t:Mg):Ms:=λδ h=>(m δ h).fl λp h1=>match t p δ with
 |some δ'=>.nx δ' h1
 |none=>.bad
def lQ(m:Me):Ms:=λδ h=>(m δ h).fl λ_ h1=>.nx δ h1
def cV(m:Me):Ms:=λδ h=>(m δ h).fl λp h1=>.rt p h1
def gY(t:Ev->PH->ZH 0)(a b:Ms):Ms:=λδ h=>(t δ h).fl λc h1=>match c with
 |true=>a δ h1
 |false=>b δ h1
theorem cQ:SSs C k X [] iL:=λc=>O7.imp λD σ H h=>by let⟨φ,δ,h,rh,re,p⟩:=h;show p.nx rh re
theorem S3{r:Fl}{b:Ms}{D:Ends}(h:cY C φ H (match r with|.nx δ1 h1=>b δ1 h1|r=>r) D):cY C φ H r { D with nx:=rdS C b D}:=by
 cases r with
 |nx δ h'=>exact λφ' σ H' p t rh re=>⟨φ',δ,h',rh,re,cY.weak p t h⟩
 |rt p h'=>exact h
 |bk δ h'=>exact h
 |ct δ h'=>exact h
 |exc x h'=>exact h
 |bad=>exact h
theorem aF{rest:x_ w_}{a:Ms}{b:Ms}(h1:ZT st a)(h2:SSs C k X rest b):SSs C k X (st::rest) (aU a b):=λc=>(Lh (h1 c) (h2 c)).imp λD σ H h=>by let⟨φ,δ,h,rh,re,p⟩:=h;show⟨φ,δ,h,rh,re,S3 p⟩
theorem aM{a:Ms}(h1:ZT st a):SSs C k X [st] a:=λc=>O8 (h1 c)
theorem U5:ZT (.Continue pos) S0:=λc=>Fj.imp λD σ H h=>by let⟨φ,δ,h,rh,re,p⟩:=h;show p φ σ H zc (Kp.refl H) rh re
theorem bJ(hN:X.N.Nodup)(he:C_ e m)(hi:X.N[i]?=a_ x:=by rfl)(hx:Loc X.env.scope x:=by first|exact Or.inl rfl|exact Or.inr rfl)(hs:swapsWith e (a_ (.Name x pos')) pos.line X.env=pure false:=by rfl)(hf:X.fn x=true\/YZ 0=a_ .local:=by first|exact .inl rfl|exact .inr rfl):ZT (.Assign [.Name x pos'] e pos) (bZ i m):=λc=>(R5 hN hi hx (he c) hs hf).imp λD σ H h=>by let⟨φ,δ,h,rh,re,p⟩:=h;refine⟨φ,δ,h,rh,re,(post.fl p).imp ?_⟩;rintro v H1 ⟨φ1,x,h1,p1,t1,ab,af,q1⟩;show q1.nx ab ((S_ 0).set af i)
theorem Jh{t:Mg}(he:C_ e m)(hg:SG C k X tg t)(hs:swapsWithSole [tg] e pos.line X.env=pure false:=by rfl)(hw:swappedStores [tg] e X.env=pure b_:=by rfl)(h1:(XB [tg] X.env).map (·.2)=[assign tg X.env]:=by rfl):ZT (.Assign [tg] e pos) (HP m t):=λc=>(R4 (he c) (hg c) hs hw h1).imp λD σ H h=>by
 let⟨φ,δ,h,rh,re,p⟩:=h;refine⟨φ,δ,h,rh,re,(post.fl p).imp ?_⟩;rintro v H1 ⟨φ1,x,h1,p1,t1,ab,af,q1⟩;cases et:t x δ with
 |none=>rw[et]at q1;show q1.elim
 |some δ'=>rw[et]at q1;show⟨φ1,δ,h1,x,δ',ab,S_ 0,af,et,λσ' nv=>q1.nx ab nv⟩
theorem kA(he:C_ e m)(hs:swapsWith e b_ pos.line X.env=pure false:=by rfl):ZT (.Expr e pos) (lQ m):=λc=>(O9 (he c) hs).imp λD σ H h=>by let⟨φ,δ,h,rh,re,p⟩:=h;refine⟨φ,δ,h,rh,re,(post.fl p).imp ?_⟩;rintro v H1 ⟨φ1,x,h1,p1,t1,ab,af,q1⟩;show q1.nx ab (S_ 0)
theorem bH(he:C_ e m):ZT (.Return (a_ e) pos) (cV m):=λc=>(R0 (he c)).imp λD σ H h=>by let⟨φ,δ,h,rh,re,p⟩:=h;refine⟨φ,δ,h,rh,re,(post.fl p).imp ?_⟩;rintro v H1 ⟨φ1,x,h1,p1,t1,ab,af,q1⟩;show q1.rt ab af
variable{as:x_ w_}{lg:v_}
theorem jO{a:Ms}{b:Ms}{bs:x_ w_}{t:Ev->PH->ZH 0}(hc:ST C k X lg t)(ha:SSs C k X as a)(hb:SSs C k X bs b):ZT (.If lg as bs pos) (gY t a b):=λc=>(Tf (hc c) (ha c) (hb c)).imp λD σ H h=>by
 let⟨φ,δ,h,rh,re,p⟩:=h;refine⟨φ,δ,h,rh,re,(cX.fl p).imp ?_⟩;rintro d H1 ⟨φ1,h1,p1,t1,ab,q1⟩;cases d with
 |true=>exact Fu ⟨φ1,δ,h1,ab,S_ 0,q1⟩
 |false=>exact Ft ⟨φ1,δ,h1,ab,S_ 0,q1⟩
structure Wk where
 xs:x_ PV
 g:PH->Bool
def Kt(C:MC)(J:It)(w:Wk)(φ0:x_ r_)(H0:Hp):Prop:=∀φ H h,φ0<+:φ->Kp H0 H->E_ h->w.g h=true->∀i:Nat,
 (i<w.xs.length->J.go i H/\∀x H',J.yld i H x H'->(∃p,w.xs[i]?=a_ p/\RV C φ H' p x)/\Zu H'/\RH C φ H' h)/\(w.xs.length<=i->J.stop i H)
abbrev Mi:=Ev->PH->Rs Wk
def hW(C:MC)(φ:x_ r_)(H:Hp)(r:Rs Wk)(R:It->Hp->Prop):Prop:=match r with
 |.ok w h=>∀φ' H' J,φ<+:φ'->Zu H'->Zh h->Kt C J w φ' H'->R J H'
 |.exc x h=>∀φ' H',φ<+:φ'->Zu H'->Zh h->C.ex φ' H' x
 |.bad=>False
def rdI(C:MC)(m:Mi):TI:=λσ H R=>∃φ δ h,E_ h/\Y7 0/\hW C φ H (m δ h) R
def SI(C:MC)(k:Nat)(X:Cx)(tg iter:v_)(m:Mi):Prop:=Y4 X->PI X tg iter (rdI C m)
def Bl(n:Nat)(xs:Y9 0)(h':PH):Bool:=match aZ h' n with
 |some ys=>PV.beqs ys xs
 |none=>false
def ofSeq(x:PV)(h:PH):Rs Wk:=match x with
 |.tup xs=>.ok ⟨xs,λ_=>true⟩ h
 |.ref n=>match aZ h n with
  |some xs=>.ok ⟨xs,Bl n xs⟩ h
  |none=>.bad
 |.fl xs=>.ok ⟨xs,λ_=>true⟩ h
 |_=>.bad
def dX(m:Me):Mi:=λδ h=>(m δ h).bind ofSeq
theorem kB(h:C_ iter m):SI C k X tg iter (dX m):=λc=>by
 intro FR s σ H R I q;let⟨φ,δ,hh,rh,re,p⟩:=q;let key:rd C m σ H λv H1=>∃φ1 x h1,φ<+:φ1/\Zu H1/\Zi 0/\RV C φ1 H1 x v/\hW C φ1 H1 (ofSeq x h1) R:=by
  refine⟨φ,δ,hh,rh,re,?_⟩;unfold dX at p;cases e:m δ hh with
  |ok x h1=>
   rw[e]at p;intro φ' v H' p' t' a7 aq;refine⟨φ',x,h1,p',t',a7,aq,?_⟩
   change hW C φ' H' (ofSeq x h1) R
   let p0:hW C φ H (ofSeq x h1) R:=p;cases e2:ofSeq x h1 with
   |ok w h2=>rw[e2]at p0;show λφ2 H2 J p2 t2=>p0 φ2 H2 J (p'.trans p2) (t'.trans t2)
   |exc z h2=>rw[e2]at p0;show λφ2 H2 p2 t2=>p0 φ2 H2 (p'.trans p2) (t'.trans t2)
   |bad=>rw[e2]at p0;show p0
  |exc x h1=>rw[e]at p;show p
  |bad=>rw[e]at p;show p
 refine thn (h c FR s σ H _ I key) λv s1 hz=>?_;let⟨x,H1,I1,r1,φ1,x',h1,p1,t1,ab,af,q1⟩:=hz;unfold ofSeq at q1;cases x' with
 |tup xs=>
  let⟨a,vs,rfl,sa,ra⟩:=af;cases r1
  rw[<-c.K]at sa;let⟨its,rv,p,hz⟩:=I1.tuple sa;refine wpAny_pyIter_tuple (show s1.heap.IsTuple a its.toArray from p) ?_
  refine⟨(e_ s1),[(e_ s1)],_,_,H1,rfl,I1.kept (t':=s1.toks) λb o e=>y6 _ e,Hf a _,⟨_,ZL 0,rfl,rfl⟩,λb hb=>?_,?_⟩
  ·let e:b=(e_ s1):=by simpa using hb
   subst e;show I1.fpOk (zd _) (I1.hok.fresh (zd _))
  ·refine q1 φ1 H1 (Itt X.K a) zc (Kp.refl H1) ab λφ2 H2 h2 p2 t2 aj _ i=>⟨λhi=>?_,λhi=>⟨vs,t2.sq sa,by rw[<-ra.length];show hi⟩⟩;let ak:i<vs.length:=by rw[<-ra.length];show hi
   refine⟨⟨vs,vs[i],t2.sq sa,by simp[ak]⟩,λx H' y=>?_⟩;let⟨e,y⟩:=y;subst e;let⟨x2,e2,r2⟩:=ra.get (y vs (t2.sq sa));show⟨⟨x2,e2,r2.mono p2 t2⟩,Kp.refl _,aj⟩
 |ref n=>
  let⟨a,rfl,ha⟩:=af;cases r1
  dsimp only at q1;cases e:aZ h1 n with
  |none=>rw[e]at q1;show q1.elim
  |some xs=>
   rw[e]at q1;let⟨a2,vs,ar,sa,ra⟩:=cZ ab e;rw[ha]at ar;cases ar;let gz:SqL X.K H1 a vs:=by rw[c.K];show sa
   let⟨its,rv,p,hz⟩:=I1.list gz;refine wpAny_pyIter_list p.isList ?_;refine⟨(e_ s1),[(e_ s1)],_,_,H1,rfl,I1.kept (t':=s1.toks) λb o e=>y6 _ e,CN a _,⟨_,ZL 0,rfl,rfl⟩,λb hb=>?_,?_⟩
   ·let e:b=(e_ s1):=by simpa using hb
    subst e;show I1.fpOk (zd _) (I1.hok.fresh (zd _))
   ·refine q1 φ1 H1 (Itl X.K a) zc (Kp.refl H1) ab λφ2 H2 h2 p2 t2 aj hg i=>?_;let hg:(match aZ h2 n with|some ys=>PV.beqs ys xs|none=>false)=true:=hg
    cases e2:aZ h2 n with
    |none=>rw[e2]at hg;cases hg
    |some ys=>
     rw[e2]at hg;let qf:=PV.beqs_eq hg;subst qf;let⟨a3,us,kb,su,ru⟩:=cZ aj e2;rw[jA p2 ha]at kb;cases kb;rw[<-c.K]at su;refine⟨λhi=>?_,λhi=>⟨us,su,by rw[<-ru.length];show hi⟩⟩;let ak:i<us.length:=by rw[<-ru.length];show hi
     refine⟨⟨us,us[i],su,by simp[ak]⟩,λx H' y=>?_⟩;let⟨e,y⟩:=y;subst e;let⟨x2,e2,r2⟩:=ru.get (y us su);show⟨⟨x2,e2,r2⟩,Kp.refl _,aj⟩
 |fl xs=>
  let⟨a,vs,rfl,sa,ra⟩:=af;cases r1
  rw[<-c.K]at sa;let⟨its,rv,p,hz⟩:=I1.list sa.sq;refine wpAny_pyIter_list p.isList ?_;refine⟨(e_ s1),[(e_ s1)],_,_,H1,rfl,I1.kept (t':=s1.toks) λb o e=>y6 _ e,CN a _,⟨_,ZL 0,rfl,rfl⟩,λb hb=>?_,?_⟩
  ·let e:b=(e_ s1):=by simpa using hb
   subst e;show I1.fpOk (zd _) (I1.hok.fresh (zd _))
  ·refine q1 φ1 H1 (Itl X.K a) zc (Kp.refl H1) ab λφ2 H2 h2 p2 t2 aj _ i=>⟨λhi=>?_,λhi=>⟨vs,(t2.sf sa).sq,by rw[<-ra.length];show hi⟩⟩;let ak:i<vs.length:=by rw[<-ra.length];show hi
   refine⟨⟨vs,vs[i],(t2.sf sa).sq,by simp[ak]⟩,λx H' y=>?_⟩;let⟨e,y⟩:=y;subst e;let⟨x2,e2,r2⟩:=ra.get (y vs (t2.sf sa).sq);show⟨⟨x2,e2,r2.mono p2 t2⟩,Kp.refl _,aj⟩
 |_=>exact q1.elim
def upTo(lo:Int):Nat->Y9 0
 |0=>[]
 |n+1=>.int lo::upTo (lo+1) n
theorem jF:∀(n:Nat)(lo:Int),(upTo lo n).length=n
 |0,_=>rfl
 |n+1,lo=>by simp[upTo,jF n]
theorem Bm:∀(n:Nat)(lo:Int)(i:Nat),i<n->(upTo lo n)[i]?=d_ (lo+i)
 |0,_,_,h=>by omega
 |n+1,lo,0,_=>by simp[upTo]
 |n+1,lo,i+1,h=>by
  simp only[upTo,W7];rw[Bm n (lo+1) i ⋯];congr 2;omega
open Classical in
noncomputable def Ji:Y9 0->PH->Rs Wk:=λxs h=>match xs with
 |[.int j]=>if -(2 ^ 62)<=j/\j<2 ^ 62 then .ok ⟨upTo 0 j.toNat,λ_=>true⟩ h else .bad
 |_=>.bad
noncomputable def qC(ms:Ma):Mi:=λδ h=>(ms δ h).bind Ji
theorem S4(lo:Int)(n:Nat)(φ:x_ r_)(H:Hp):Kt C (Itr lo n) ⟨upTo lo n,λ_=>true⟩ φ H:=λφ2 H2 h2 p2 t2 aj _ i=>by
 refine⟨λhi=>?_,λhi=>?_⟩
 ·let ak:i<n:=by rw[<-jF n lo];show hi
  refine⟨ak,λx H' y=>?_⟩;let⟨e,y⟩:=y;subst e y;show⟨⟨.int (lo+i),Bm n lo i ak,rfl⟩,Kp.refl _,aj⟩
 ·have:(upTo lo n).length<=i:=hi;rw[jF]at this;show this
variable{R:It->Hp->Prop}
theorem postA.bindI{r:Rs (Y9 0)}{f:Y9 0->PH->Rs Wk}(h:hW C φ H (r.bind f) R):postA C φ H r λvs H1=>∃φ1 ps h1,φ<+:φ1/\Zu H1/\Zi 0/\RVs C φ1 H1 ps vs/\hW C φ1 H1 (f ps h1) R:=by
 cases r with
 |ok a h'=>
  intro φ' v H' p' t' rh rv;refine⟨φ',a,h',p',t',rh,rv,?_⟩;let p0:hW C φ H (f a h') R:=h;cases e2:f a h' with
  |ok w h2=>rw[e2]at p0;show λφ2 H2 J p2 t2=>p0 φ2 H2 J (p'.trans p2) (t'.trans t2)
  |exc z h2=>rw[e2]at p0;show λφ2 H2 p2 t2=>p0 φ2 H2 (p'.trans p2) (t'.trans t2)
  |bad=>rw[e2]at p0;show p0
 |exc a h'=>exact h
 |bad=>exact h
theorem PI.imp{t t':TI}(h:PI X tg iter t)(i:∀σ H R,t' σ H R->t σ H R):PI X tg iter t':=λFR s σ H R I q=>Zd R I (i σ H R q)
theorem Bn{x:v_}{p:Pos}(ha:SA C k X [x] ms)(hb:("range" : Str)∈C.bs:=by decide)(hg:Gl X "range" := by rfl)(hs:zw [x] X.env=[(false,eval x X.env)]:=by rfl):SI C k X tg (.Call (.Name "range" p) [x] [] pos) (qC ms):=λc=>
 (pr1 hg (c.bn _ hb) (ha c) hs).imp λσ H R h=>by
  let⟨φ,δ,h,rh,re,p⟩:=h;refine⟨φ,δ,h,rh,re,(postA.bindI p).imp ?_⟩;rintro vs H1 ⟨φ1,xs,h1,p1,t1,ab,af,q1⟩;unfold Ji at q1;split at q1
  ·let⟨v,rfl,rx⟩:=af.one;cases rx
   rename_i j;by_cases hj:-(2 ^ 62)<=j/\j<2 ^ 62
   ·rw[if_pos hj]at q1;show⟨hj,q1 φ1 H1 _ zc (Kp.refl _) ab (S4 0 j.toNat φ1 H1)⟩
   ·rw[if_neg hj]at q1;show q1.elim
  ·show q1.elim
def mB(g:PH->Bool)(tg:Mg)(body:Ms):Y9 0->Ev->PH->Fl
 |[],δ,h=>if g h=true then .nx δ h else .bad
 |x::xs,δ,h=>if g h=true then(match tg x δ with
  |none=>.bad
  |some δ1=>match body δ1 h with
   |.nx δ2 h2=>mB g tg body xs δ2 h2
   |.ct δ2 h2=>mB g tg body xs δ2 h2
   |.bk δ2 h2=>.nx δ2 h2
   |r=>r) else .bad
def pN(mi:Mi)(tg:Mg)(body:Ms):Ms:=λδ h=>(mi δ h).fl λw h1=>mB w.g tg body w.xs δ h1
theorem hW.fl{r:Rs Wk}{f:Wk->PH->Fl}{D:Ends}(h:cY C φ H (r.fl f) D):hW C φ H r λJ H1=>∃φ1 w h1,φ<+:φ1/\Zu H1/\Zi 0/\Kt C J w φ1 H1/\cY C φ1 H1 (f w h1) D:=by
 cases r with
 |ok a h'=>exact λφ' H' J p t rh wk=>⟨φ',a,h',p,t,rh,wk,cY.weak p t h⟩
 |exc a h'=>exact h
 |bad=>exact h
theorem hW.imp{r:Rs Wk}{Q Q':It->Hp->Prop}(h:hW C φ H r Q)(i:∀v H',Q v H'->Q' v H'):hW C φ H r Q':=by
 cases r with
 |ok a h'=>exact λφ' H' J p t rh wk=>i J H' (h φ' H' J p t rh wk)
 |exc a h'=>exact h
 |bad=>exact h
theorem drop_cons{α:Type}{xs:x_ α}{p:α}(h:xs[i]?=a_ p):xs.drop i=p::xs.drop (i+1):=by let⟨h1,h2⟩:=yy.mp h;rw[List.drop_eq_getElem_cons h1,h2]
variable{H0:Hp}{J:It}{φ0:x_ r_}
theorem OL{w:Wk}{tg:Mg}{body:Ms}{D:Ends}(wk:Kt C J w φ0 H0)(rh:RH C φ0 H0 h)(re:RE C φ0 H0 δ σ)(p:cY C φ0 H0 (mB w.g tg body w.xs δ h) D):
  ∃W:Nat->Nat->St->Hp->Prop,(∃m,W 0 m σ H0)/\∀i m σ H,W i m σ H->
   (J.stop i H/\D.nx σ H)\/(J.go i H/\∃N:St->Hp->Prop,(∀σ' H',N σ' H'->∃m',m'<m/\W (i+1) m' σ' H')/\∀x H',J.yld i H x H'->rdG C tg x σ H' λσ2 H2=>rdS C body { D with nx:=N,ct:=N,bk:=D.nx} σ2 H2):=by
 refine⟨λi m σ H=>m=w.xs.length-i/\i<=w.xs.length/\∃φ δ h,φ0<+:φ/\Kp H0 H/\E_ h/\Y7 0/\cY C φ H (mB w.g tg body (w.xs.drop i) δ h) D,
  ⟨w.xs.length,by simp,z8 _,φ0,δ,h,zc,Kp.refl _,rh,re,by rw[List.drop_zero];show p⟩,?_⟩
 rintro i m σ H ⟨rfl,hi,φ,δ,h,pp,tt,rh,re,p⟩;by_cases ai:i<w.xs.length
 ·let hd:w.xs.drop i=w.xs[i]::w.xs.drop (i+1):=drop_cons (by simp[ai]);rw[hd]at p;unfold mB at p;by_cases hg:w.g h=true
  ·rw[if_pos hg]at p;let⟨go,step⟩:=(wk φ H h pp tt rh hg i).1 ai;refine .inr ⟨go,λσ' H'=>∃φ δ h,φ0<+:φ/\Kp H0 H'/\RH C φ H' h/\RE C φ H' δ σ'/\cY C φ H' (mB w.g tg body (w.xs.drop (i+1)) δ h) D,λσ' H' ⟨φ',δ',h',q⟩=>⟨w.xs.length-(i+1),⋯,rfl,ai,φ',δ',h',q⟩,λx H' y=>?_⟩;let⟨⟨q,eq,rv⟩,t1,ab⟩:=step x H' y;let ph:w.xs[i]=q:=by
    have:w.xs[i]?=a_ w.xs[i]:=by simp[ai]
    rw[this]at eq;show zl eq
   rw[ph]at p;cases et:tg q δ with
   |none=>rw[et]at p;show p.elim
   |some δ1=>
    rw[et]at p;dsimp only at p;refine⟨φ,δ,h,q,δ1,ab,re.mono zc t1,rv,et,λσ2 oe=>⟨φ,δ1,h,ab,oe,?_⟩⟩;let p:=cY.weak zc t1 p;cases eb:body δ1 h with
    |nx δ2 h2=>rw[eb]at p;show λφ3 σ3 H3 p3 t3 ax f9=>⟨φ3,δ2,h2,pp.trans p3,(tt.trans t1).trans t3,ax,f9,cY.weak p3 t3 p⟩
    |ct δ2 h2=>rw[eb]at p;show λφ3 σ3 H3 p3 t3 ax f9=>⟨φ3,δ2,h2,pp.trans p3,(tt.trans t1).trans t3,ax,f9,cY.weak p3 t3 p⟩
    |bk δ2 h2=>rw[eb]at p;show p
    |rt z h2=>rw[eb]at p;show p
    |exc z h2=>rw[eb]at p;show p
    |bad=>rw[eb]at p;show p
  ·rw[if_neg hg]at p;show p.elim
 ·let e:i=w.xs.length:=⋯;subst e;rw[List.drop_length]at p;unfold mB at p;by_cases hg:w.g h=true
  ·rw[if_pos hg]at p;show .inl ⟨(wk φ H h pp tt rh hg _).2 (zd _),p.nx rh re⟩
  ·rw[if_neg hg]at p;show p.elim
variable{body:x_ w_}{mi:Mi}
theorem qD{t:Mg}{mb:Ms}(hi:SI C k X tg iter mi)(hg:SG C k X tg t)(hb:SSs C k X body mb)(hp:PassesOwn (g_ X) X.A X.env X.xe:=by show PassesOwn.never)(hs:∀x,Xs iter X.env x=pure x:=by intro _;rfl):ZT (.For tg iter body [] pos) (pN mi t mb):=λc=>(R7 hp c.calm (hi c) (hg c) (hb c) hs).imp λD σ H h=>by let⟨φ,δ,h,rh,re,p⟩:=h;refine⟨φ,δ,h,rh,re,(hW.fl p).imp ?_⟩;rintro J H1 ⟨φ1,w,h1,p1,t1,ab,wk,q1⟩;show OL wk ab (S_ 0) q1
def Df(t:Ev->PH->ZH 0)(body:Ms):Nat->Ev->PH->Fl
 |0,_,_=>.bad
 |n+1,δ,h=>(t δ h).fl λb h1=>match b with
  |false=>.nx δ h1
  |true=>match body δ h1 with
   |.nx δ2 h2=>Df t body n δ2 h2
   |.ct δ2 h2=>Df t body n δ2 h2
   |.bk δ2 h2=>.nx δ2 h2
   |r=>r
def E3(n:Nat)(t:Ev->PH->ZH 0)(body:Ms):Ms:=Df t body n
theorem OM{t:Ev->PH->ZH 0}{mb:Ms}(hc:ST C k X lg t)(hb:SSs C k X body mb)(hp:PassesOwn (g_ X) X.A X.env X.xe:=by show PassesOwn.never):ZT (.While lg body [] pos) (E3 n t mb):=λc=>
 (Lk hp (hc c) (hb c)).imp λD σ H h=>by
  refine⟨λm σ H=>∃φ δ h,E_ h/\Y7 0/\cY C φ H (Df t mb m δ h) D,⟨n,h⟩,?_⟩;rintro m σ H ⟨φ,δ,h,rh,re,p⟩;cases m with
  |zero=>exact p.elim
  |succ m=>
   refine⟨φ,δ,h,rh,re,(cX.fl p).imp ?_⟩;rintro b H1 ⟨φ1,h1,p1,t1,ab,q1⟩;cases b with
   |false=>exact Ft (q1.nx ab (S_ 0))
   |true=>
    refine Fu ⟨λσ' H'=>∃φ δ h,RH C φ H' h/\RE C φ H' δ σ'/\cY C φ H' (Df t mb m δ h) D,λσ' H' q=>⟨m,Nat.lt_succ_self m,q⟩,φ1,δ,h1,ab,S_ 0,?_⟩;dsimp only at q1;cases eb:mb δ h1 with
    |nx δ2 h2=>rw[eb]at q1;show λφ3 σ3 H3 p3 t3 ax f9=>⟨φ3,δ2,h2,ax,f9,cY.weak p3 t3 q1⟩
    |ct δ2 h2=>rw[eb]at q1;show λφ3 σ3 H3 p3 t3 ax f9=>⟨φ3,δ2,h2,ax,f9,cY.weak p3 t3 q1⟩
    |bk δ2 h2=>rw[eb]at q1;show q1
    |rt z h2=>rw[eb]at q1;show q1
    |exc z h2=>rw[eb]at q1;show q1
    |bad=>rw[eb]at q1;show q1
variable{C:MC}{k:Nat}{X:Cx}
def gZ(js:x_ (y_ Nat))(δ:Ev):Ev:=js.map λo=>match o with
 |none=>b_
 |some j=>A6 δ j
theorem Jj:∀{σ:St}{i:Nat}{v:V},σ[i]?=a_ (a_ v)->LN σ i=a_ v
 |[],_,_,h=>by simp at h
 |x::_,0,v,h=>by
  have:x=a_ v:=by simpa using h
  show this
 |_::r,n+1,v,h=>Jj (σ:=r) (i:=n) (ke h)
theorem RE.cap(re:Y7 0)(js:x_ (y_ Nat)):RE C φ H (gZ js δ) (nW js σ):=by
 refine⟨by simp[gZ,nW],λi p e=>?_⟩;unfold gZ at e;unfold nW;rw[zt]at e⊢;cases q:js[i]? with
 |none=>rw[q]at e;cases e
 |some o=>
  rw[q]at e;cases o with
  |none=>cases e
  |some j=>let⟨v,hv,rv⟩:=re.2 j p (Bf (zl e));show⟨v,by change a_ (LN σ j)=_;rw[Jj hv],rv⟩
def pF(g:PH->Bool)(tg:Mg)(tst:Ev->PH->ZH 0)(elt:Me)(δ0:Ev)(n:Nat):Y9 0->PH->Rs PV
 |[],h=>if g h=true then .ok (.ref n) h else .bad
 |x::xs,h=>if g h=true then(match tg x δ0 with
  |none=>.bad
  |some δ1=>(tst δ1 h).bind λb h1=>match b with
   |false=>pF g tg tst elt δ0 n xs h1
   |true=>(elt δ1 h1).bind λp h2=>match dA h2 n with
    |some ys=>if ys.length<zf then pF g tg tst elt δ0 n xs (h2.set n (.lst (ys++[p]))) else .bad
    |none=>.bad) else .bad
def dQ(js:x_ (y_ Nat))(mi:Mi)(tg:Mg)(tst:Ev->PH->ZH 0)(elt:Me):Me:=λδ h=>(mi δ h).bind λw h1=>pF w.g tg tst elt (gZ js δ) h1.length w.xs (h1++[.lst []])
def kQ:Ev->PH->ZH 0:=λ_ h=>.ok true h
def STs(C:MC)(k:Nat)(X:Cx)(es:x_ v_)(m:Ev->PH->ZH 0):Prop:=Y4 X->PTs X es (rdB C m)
theorem mO:STs C k X [] kQ:=λc FR s σ H Q I h=>by let⟨φ,δ,h,rh,re,p⟩:=h;show Ou FR s σ H Q I (p.val rh)
theorem HQ{m:Ev->PH->ZH 0}(h:ST C k X e m):STs C k X [e] m:=λc=>Ov (h c)
theorem hW.bind{r:Rs Wk}{f:Wk->PH->Rs PV}{Q:VK}(h:O_ (r.bind f) Q):hW C φ H r λJ H1=>∃φ1 w h1,φ<+:φ1/\Zu H1/\Zi 0/\Kt C J w φ1 H1/\post C φ1 H1 (f w h1) Q:=by
 cases r with
 |ok a h'=>exact λφ' H' J p t rh wk=>⟨φ',a,h',p,t,rh,wk,post.weak p t h⟩
 |exc a h'=>exact h
 |bad=>exact h
variable{elt:Me}{tst:Ev->PH->ZH 0}
theorem Md{w:Wk}{tg:Mg}{Q:VK}(wk:Kt C J w φ0 H0)(rh:RH C φ0 H0 h)(re:RE C φ0 H0 δ σ)(p:post C φ0 H0 (pF w.g tg tst elt (gZ js δ) h.length w.xs (h++[.lst []])) Q)(acc:r_)(cb:H0 acc=b_):
  ∃W:Nat->Nat->Hp->Prop,(∃m,W 0 m (upd H0 acc (.lst [])))/\∀i m H2,W i m H2->
   (J.stop i H2/\Q (.ref acc) H2)\/(J.go i H2/\∃N:Hp->Prop,(∀H',N H'->∃m',m'<m/\W (i+1) m' H')/\∀x H3,J.yld i H2 x H3->Qv js (rdG C tg) (rdB C tst) (rd C elt) σ acc x H3 N):=by
 let hlen:(φ0++[acc])[h.length]?=a_ acc:=by rw[<-rh.len];simp
 refine⟨λi m H=>m=w.xs.length-i/\i<=w.xs.length/\∃φ h',(φ0++[acc])<+:φ/\Kp H0 H/\E_ h'/\O_ (pF w.g tg tst elt (gZ js δ) h.length (w.xs.drop i) h') Q,
  ⟨w.xs.length,by simp,z8 _,φ0++[acc],h++[.lst []],zc,Kp.new cb,rh.new (o:=.lst []) cb ⟨[],aX,trivial⟩,by rw[List.drop_zero];show post.weak (Wx _ _) (Kp.new cb) p⟩,?_⟩
 rintro i m H ⟨rfl,hi,φ,h',pp,tt,a7,p⟩;let oq:φ0<+:φ:=(Wx _ _).trans pp;by_cases ai:i<w.xs.length
 ·let hd:w.xs.drop i=w.xs[i]::w.xs.drop (i+1):=drop_cons (by simp[ai]);rw[hd]at p;unfold pF at p;by_cases hg:w.g h'=true
  ·rw[if_pos hg]at p;let⟨go,step⟩:=(wk φ H h' oq tt a7 hg i).1 ai;refine .inr ⟨go,λH'=>∃φ h',(φ0++[acc])<+:φ/\Kp H0 H'/\RH C φ H' h'/\post C φ H' (pF w.g tg tst elt (gZ js δ) h.length (w.xs.drop (i+1)) h') Q,λH' ⟨φ',h',q⟩=>⟨w.xs.length-(i+1),⋯,rfl,ai,φ',h',q⟩,λx H' y=>?_⟩;let⟨⟨q,eq,rv⟩,t1,ab⟩:=step x H' y;let ph:w.xs[i]=q:=by
    have:w.xs[i]?=a_ w.xs[i]:=by simp[ai]
    rw[this]at eq;show zl eq
   rw[ph]at p;cases et:tg q (gZ js δ) with
   |none=>rw[et]at p;show p.elim
   |some δ1=>
    rw[et]at p;let qg:RE C φ H' (gZ js δ) (nW js σ):=(re.mono oq (tt.trans t1)).cap js;refine⟨φ,gZ js δ,h',q,δ1,ab,qg,rv,et,λσ2 oe=>⟨φ,δ1,h',ab,oe,(cX.bind (post.weak zc t1 p)).imp ?_⟩⟩;rintro b H5 ⟨φ5,h5,p5,t5,rh5,q5⟩;cases b with
    |false=>exact Ft ⟨φ5,h5,pp.trans p5,(tt.trans t1).trans t5,rh5,q5⟩
    |true=>
     refine Fu ⟨φ5,δ1,h5,rh5,oe.mono p5 t5,(post.bind q5).imp ?_⟩;rintro v H6 ⟨φ6,z,h6,p6,t6,rh6,rv6,q6⟩;cases e6:dA h6 h.length with
     |none=>rw[e6]at q6;show q6.elim
     |some ys=>
      rw[e6]at q6;let⟨hz,q6⟩:=q6.ite;let hφ:φ6[h.length]?=a_ acc:=jA ((pp.trans p5).trans p6) hlen;let⟨vs,hH,eu⟩:=rh6.at' h.length acc _ hφ (jE e6);refine⟨vs,hH,by rw[<-eu.length];show hz,φ6,h6.set h.length (.lst (ys++[z])),(pp.trans p5).trans p6,(((tt.trans t1).trans t5).trans t6).trans (Kp.lst hH),
       rh6.write hφ (by rw[hH];trivial) ⟨vs++[v],aX,(eu.snoc rv6).mono zc (Kp.lst hH)⟩,post.weak zc (Kp.lst hH) q6⟩
  ·rw[if_neg hg]at p;show p.elim
 ·let e:i=w.xs.length:=⋯;subst e;rw[List.drop_length]at p;unfold pF at p;by_cases hg:w.g h'=true
  ·rw[if_pos hg]at p;show .inl ⟨(wk φ H h' oq tt a7 hg _).2 (zd _),p.val a7 ⟨acc,rfl,jA pp hlen⟩⟩
  ·rw[if_neg hg]at p;show p.elim
theorem Jk{tg:Mg}{Q:VK}(h:rd C (dQ js mi tg tst elt) σ H Q):J' js (rdI C mi) (rdG C tg) (rdB C tst) (rd C elt) σ H Q:=by let⟨φ,δ,h,rh,re,p⟩:=h;refine⟨φ,δ,h,rh,re,(hW.bind p).imp ?_⟩;rintro J H1 ⟨φ1,w,h1,p1,t1,ab,wk,q1⟩;intro acc cb;show Md wk ab (S_ 0) q1 acc cb
theorem kR{elt:v_}{g:Mg}{tt:Ev->PH->ZH 0}(c6:X.env.scope=os)(fw:X.N=oN)(ok:sY os oN sc N js=true)(hi:SI C k X tg iter mi)(hg:∀C' fp s₀ H₀,SG C k (P_ C' fp s₀ H₀) tg g)(ht:∀C' fp s₀ H₀,STs C k (P_ C' fp s₀ H₀) ifs tt)(he:∀C' fp s₀ H₀,SE C k (P_ C' fp s₀ H₀) elt me)(hs:∀x,Xs iter X.env x=pure x:=by intro _;rfl):C_ (.ListComp elt [⟨tg,iter,ifs,0⟩] sc pos) (dQ js mi g tt me):=λc=>(Ow c.calm c6 fw ok (hi c) (λa b s H=>hg a b s H (c.comp sc N a b s H)) (λa b s H=>ht a b s H (c.comp sc N a b s H)) (λa b s H=>he a b s H (c.comp sc N a b s H)) hs).imp λσ H Q h=>Jk h
theorem Dg{elt:v_}{g:Mg}{tt:Ev->PH->ZH 0}(hN:X.N.Nodup)(cm:X.N[i]?=a_ x)(gv:YZ 0=a_ .local)(c6:X.env.scope=os)(fw:X.N=oN)(ok:sY os oN sc N js=true)(hi:SI C k X tg iter mi)(hg:∀C' fp s₀ H₀,SG C k (P_ C' fp s₀ H₀) tg g)(ht:∀C' fp s₀ H₀,STs C k (P_ C' fp s₀ H₀) ifs tt)(he:∀C' fp s₀ H₀,SE C k (P_ C' fp s₀ H₀) elt me)(qo:swapsWith (.ListComp elt [⟨tg,iter,ifs,0⟩] sc pos) (a_ (.Name x pos')) dq.line X.env=pure true:=by rfl)(hs:∀x,Xs iter X.env x=pure x:=by intro _;rfl):ZT (.Assign [.Name x pos'] (.ListComp elt [⟨tg,iter,ifs,0⟩] sc pos) dq) (bZ i (dQ js mi g tt me)):=λc=>(Hw hN cm gv c.calm c6 fw ok (hi c) (λa b s H=>hg a b s H (c.comp sc N a b s H)) (λa b s H=>ht a b s H (c.comp sc N a b s H)) (λa b s H=>he a b s H (c.comp sc N a b s H)) qo hs).imp λD σ H h=>by let⟨φ,δ,h,rh,re,p⟩:=h;refine Jk ⟨φ,δ,h,rh,re,(post.fl p).imp ?_⟩;rintro v H1 ⟨φ1,x,h1,p1,t1,ab,af,q1⟩;show q1.nx ab ((S_ 0).set af i)
def mFn(N:Nat)(body:Ms):Fn:=λargs h=>match body (args.map a_++XO (N-args.length) b_) h with
 |.nx _ h'=>.ok .non h'
 |.rt p h'=>.ok p h'
 |.exc x h'=>.exc x h'
 |_=>.bad
theorem RE.start{ps:Y9 0}(r:A_ ps vs)(N:Zw 0):RE C φ H (ps.map a_++XO (N.length-ps.length) b_) (start N vs):=by
 unfold L2.start;refine⟨by simp[r.length],λi p e=>?_⟩;by_cases hi:i<ps.length
 ·rw[Wj (ke hi),zt]at e;rw[Wj (by simpa[<-r.length] using hi),zt]
  cases q:ps[i]? with
  |none=>rw[q]at e;cases e
  |some x=>
   rw[q]at e;cases e
   let⟨v,hv,rv⟩:=r.at q;show⟨v,by rw[hv];rfl,rv⟩
 ·rw[Xe (ke hi)]at e;rw[List.getElem?_replicate]at e;split at e
  ·cases e
  ·cases e
theorem bO{f:r_}{body:Ms}(hex:∀φ H x,¬ C.ex φ H x)(hbn:∀x∈C.bs,mg x=b_)(F:Fun C.K x qual st f fd)(S:aR N ps (aJ st))(hb:∀(cdv:qe)(A:td)(outer:x_ Env)(s:q_)(H:Hp)(E:XK),SSs C k (Hr CX0 P C.w C.K mg base N qual (aJ st) f cdv A outer s H E).nox (fM st) body):
  aT P C.w C.K mg base CX0 (k+1) f fd ps (spM C ps.length (mFn N.length body)):=by
 refine F.ok S (λvs H Q E h=>?_) (λcdv A outer s H vs Q E hr h=>?_)
 ·let⟨φ,h,xs,rh,rv,hl,_⟩:=h;rw[<-rv.length];show hl
 ·let⟨φ,h,xs,rh,rv,hl,p⟩:=h;refine⟨_,hb cdv A outer s H E ⟨rfl,rfl,hr,hbn,rfl⟩,φ,xs.map a_++XO (N.length-xs.length) b_,h,rh,RE.start rv N,?_⟩;unfold mFn at p;cases e:body (xs.map a_++XO (N.length-xs.length) b_) h with
  |nx δ h'=>rw[e]at p;show λφ' σ' H' pp tt a7 nv=>p φ' .non H' pp tt a7 rfl
  |rt z h'=>rw[e]at p;show p
  |exc z h'=>rw[e]at p;show λφ' H' pp tt a7=>(hex _ _ _ (p φ' H' pp tt a7)).elim
  |bk δ h'=>rw[e]at p;show p.elim
  |ct δ h'=>rw[e]at p;show p.elim
  |bad=>rw[e]at p;show p.elim
theorem S5{f:Fn}{Q:VK}{E:XK}(hO:LI H)(ho:SqL C.K H a (Z_ 0))(hf:∃h,f [.fl (Zb 0)] []=.ok (.bl true) h)(hQ:∀H',Q (.bl true) H'):spM C 1 f [.ref a] H Q E:=by
 let r0:∀ns:x_ Int,RVs C [] H (Zb 0) (Z_ 0):=by
  intro ns
  induction ns with
  |nil=>trivial
  |cons n ns ih=>exact⟨rfl,ih⟩
 let hs:SqF C.K H a (Z_ 0):=by
  rcases ho with(h|⟨o,h⟩)|h
  ·rcases hO a with z|⟨o,xs,z⟩
   ·rw[z]at h;cases h
   ·rw[z]at h;cases h
  ·show .inl ⟨o,h⟩
  ·show .inr h
 refine⟨[],[],[.fl (Zb 0)],⟨rfl,by simp,λn b ob h1 h2=>by simp at h1⟩,⟨⟨a,_,rfl,hs,r0 ns⟩,trivial⟩,rfl,?_⟩;let⟨h,e⟩:=hf;rw[e];intro φ' v H' _ _ _ rv;cases rv
 show hQ H'
variable{C:MC}{k:Nat}{X:Cx}
def tyN(x:PV)(h:PH):y_ String:=match x with
 |.non=>a_ "NoneType"
 |.bl _=>a_ "bool"
 |.int _=>a_ "int"
 |.str _=>a_ "str"
 |.tup _=>a_ "tuple"
 |.fl _=>a_ "list"
 |.ref n=>match h[n]? with
  |some (.lst _)=>a_ "list"
  |some (.dK _)=>a_ "dict"
  |_=>b_
 |.ty _=>b_
def Bo(t c:String):Bool:=t == c || (t == "bool" && c == "int")
def known:x_ String:=["int","str","bool","list","tuple","dict"]
theorem S6{t c:String}(ht:t∈"NoneType" :: known)(hc:c∈known):PySem.W.kitOne K (.type t) (.type c)=a_ (Bo t c):=by simp only[known,zq,List.not_mem_nil,or_false]at ht hc;rcases ht with rfl|rfl|rfl|rfl|rfl|rfl|rfl <;> rcases hc with rfl|rfl|rfl|rfl|rfl|rfl <;> rfl
def pO:Y9 0->PH->Rs PV:=λxs h=>match xs with
 |[x,.ty c]=>match tyN x h with
  |some t=>if c∈known then .ok (.bl (Bo t c)) h else .bad
  |none=>.bad
 |_=>.bad
theorem Mf(hK:X.K=C.K):eL X (.builtin "isinstance") (λxs H Q=>∃x c t b,xs=[x,.ty c]/\(wV C.K H x (.type t)\/(∃a vs,x=.ref a/\SqT C.K H a vs/\t="tuple")\/(∃a vs,x=.ref a/\SqL C.K H a vs/\t="list"))/\PySem.W.kitOne C.K (.type t) (.type c)=a_ b/\Q (.bl b) H):=by
 intro FR s σ H xs us Q I r h;let⟨x,c,t,b,rfl,ty,e,q⟩:=h;let⟨u,v,rfl,ru,rv⟩:=vals2 r;cases rv
 rw[<-hK]at e ty;rcases ty with ty|⟨a,vs,rfl,sa,rfl⟩|⟨a,vs,rfl,sa,rfl⟩
 ·show K1 I ru ty e λtk=>⟨.bl b,H,I.tok tk,rfl,q⟩
 ·cases ru
  let⟨its,_,⟨o,h1,h2,_⟩,_⟩:=I.tuple sa;show WG PySem.W.kitx_tuple I.kIn ⟨o,h1,h2⟩ e (λz=>nomatch z) λtk=>⟨.bl b,H,I.tok tk,rfl,q⟩
 ·cases ru
  let⟨its,_,⟨o,n,h1,h2,_⟩,_⟩:=I.list sa;show WG PySem.W.kitx_list I.kIn ⟨o,h1,h2⟩ e (λz=>nomatch z) λtk=>⟨.bl b,H,I.tok tk,rfl,q⟩
theorem fN:vD C k X (.builtin "isinstance") pO:=λc=>(Mf c.K).imp λvs H Q h=>by
 let⟨φ,h,ps,rh,rv,po⟩:=h;unfold pO at po;split at po
 ·rename_i x n;let⟨v,w,rfl,rx,ry⟩:=rv.two;cases ry
  split at po
  ·rename_i t ht;let⟨hn,po⟩:=po.ite;let fin:∀{t:String},t∈"NoneType" :: known->O_ (.ok (.bl (Bo t n)) h) Q->PySem.W.kitOne C.K (.type t) (.type n)=a_ (Bo t n)/\Q (.bl (Bo t n)) H:=λhm po=>⟨S6 hm hn,P1 rfl⟩;unfold tyN at ht;cases x with
   |non=>cases ht;cases rx;show⟨_,n,_,_,rfl,.inl .non,fin nofun po⟩
   |bl b=>cases ht;cases rx;show⟨_,n,_,_,rfl,.inl (.bl _),fin nofun po⟩
   |int b=>cases ht;cases rx;show⟨_,n,_,_,rfl,.inl (.int _),fin nofun po⟩
   |str b=>cases ht;cases rx;show⟨_,n,_,_,rfl,.inl (.str _),fin nofun po⟩
   |tup xs=>
    cases ht
    let⟨a,vs,rfl,sa,ra⟩:=rx;show⟨_,n,_,_,rfl,.inr (.inl ⟨a,vs,rfl,sa,rfl⟩),fin nofun po⟩
   |fl xs=>
    cases ht
    let⟨a,vs,rfl,sa,ra⟩:=rx;show⟨_,n,_,_,rfl,.inr (.inr ⟨a,vs,rfl,sa.sq,rfl⟩),fin nofun po⟩
   |ref m=>
    let⟨a,rfl,ha⟩:=rx;dsimp only at ht;split at ht
    ·rename_i xs hx;cases ht
     let⟨vs,hH,ra⟩:=rh.at' m a _ ha hx;show⟨_,n,_,_,rfl,.inl (.lst hH),fin nofun po⟩
    ·rename_i xs hx;cases ht
     let⟨vs,hH,ra⟩:=rh.at' m a _ ha hx;show⟨_,n,_,_,rfl,.inl (.dK hH),fin nofun po⟩
    ·cases ht
   |ty z=>cases ht
  ·show po.elim
 ·show po.elim
def mMt(ty:PV->PH->Bool)(g:PV->Y9 0->PH->Rs PV)(mo:Me)(ms:Ma):Me:=λδ h=>(mo δ h).bind λx h1=>if ty x h1=true then(ms δ h1).bind λps h2=>g x ps h2 else .bad
def qE(ty:PV->PH->Bool)(g:PV->Y9 0->PH->Rs PV)(mo:Me):Me:=λδ h=>(mo δ h).bind λx h1=>if ty x h1=true then g x [] h1 else .bad
def rM(C:MC)(g:PV->Y9 0->PH->Rs PV):V->x_ V->Hp->VK->Prop:=λx xs H Q=>∃φ h p ps,E_ h/\p_ p x/\A_ ps xs/\O_ (g p ps h) Q
def MtS(C:MC)(k:Nat)(X:Cx)(T:String)(ty:PV->PH->Bool)(id:String)(g:PV->Y9 0->PH->Rs PV):Prop:=Y4 X->MtR X id (rM C g)/\∀φ H h p x,E_ h->p_ p x->ty p h=true->tyV C.K T x H
variable{ag apos:Pos}{mo:Me}{name:Str}{ty:PV->PH->Bool}
theorem Cz{o:v_}{id:String}{g:PV->Y9 0->PH->Rs PV}(pa:PlainAttrs T)(slot:Slot T name id)(d5:typeOf (.builtin id)=pure (.type "method_descriptor"))(hm:MtS C k X T ty id g)(ho:C_ o mo)(ha:SA C k X (e::es) ms)(av:XF o name X.env (ZM 0)=ZM 0:=by rfl)(dr:((backTo ag (zw (e::es) X.env)).all (λx=>!x.1)&&(backToKw ag (keywordEach [] X.env)).all (λx=>x.1.isSome)
   && decide ((e::es).length+([]:x_ Keyword).length+(if([]:x_ Keyword).isEmpty then 0 else 1)<30))=true:=by rfl)(au:(apos.endLine == ag.line)=true:=by rfl)(hs:zw (e::es) X.env=(false,X_ 0)::U_ 0:=by rfl)(bj:(backTo ag (U_ 0)).any (·.1)=false:=by rfl):
  C_ (.Call (.Attribute o name apos) (e::es) [] ag) (mMt ty g mo ms):=λc=>(Tx pa slot d5 (hm c).1 (ho c) (ha c) av dr au hs bj).imp λσ H Q h=>by
 let⟨φ,δ,h,rh,re,p⟩:=h;refine⟨φ,δ,h,rh,re,(post.bind p).imp ?_⟩;rintro v H1 ⟨φ1,x,h1,p1,t1,ab,af,q1⟩;let⟨ht,q1⟩:=q1.ite;refine⟨by rw[c.K];show(hm c).2 φ1 H1 h1 x v ab af ht,φ1,δ,h1,ab,S_ 0,(postA.bind q1).imp ?_⟩;rintro vs H2 ⟨φ2,xs,h2,p2,t2,aj,bo,q2⟩;show⟨φ2,h2,x,xs,aj,af.mono p2 t2,bo,q2⟩
theorem Mh{o:v_}{id:String}{g:PV->Y9 0->PH->Rs PV}(pa:PlainAttrs T)(slot:Slot T name id)(d5:typeOf (.builtin id)=pure (.type "method_descriptor"))(hm:MtS C k X T ty id g)(ho:C_ o mo)(av:XF o name X.env (ZM 0)=ZM 0:=by rfl)(au:(apos.endLine == ag.line)=true:=by rfl):C_ (.Call (.Attribute o name apos) [] [] ag) (qE ty g mo):=λc=>(Ro pa slot d5 (hm c).1 (ho c) av au).imp λσ H Q h=>by let⟨φ,δ,h,rh,re,p⟩:=h;refine⟨φ,δ,h,rh,re,(post.bind p).imp ?_⟩;rintro v H1 ⟨φ1,x,h1,p1,t1,ab,af,q1⟩;let⟨ht,q1⟩:=q1.ite;show⟨by rw[c.K];show(hm c).2 φ1 H1 h1 x v ab af ht,φ1,h1,x,[],ab,af,trivial,q1⟩
theorem MtR.imp{id:String}{r r':V->x_ V->Hp->VK->Prop}(h:MtR X id r)(i:∀x xs H Q,r' x xs H Q->r x xs H Q):MtR X id r':=λFR s σ H x xs v us Q I rx rs q=>Zd x xs v us Q I rx rs (i x xs H Q q)
def isL(x:PV)(h:PH):Bool:=match x with
 |.ref n=>(dA h n).isSome
 |_=>false
theorem E4{x:V}(rh:E_ h)(rv:p_ p x)(e:isL p h=true):tyV C.K "list" x H:=by
 cases p with
 |ref n=>
  let⟨a,rfl,ha⟩:=rv;let⟨xs,hx⟩:=W0.mp (show(dA h n).isSome=true from e)
  let⟨vs,hH,ra⟩:=Y0 (jE hx);show .inl ⟨rfl,vs,SqL.of hH⟩
 |_=>cases e
def onL(f:Y9 0->Y9 0->y_ (PV×Y9 0)):PV->Y9 0->PH->Rs PV:=λx ps h=>match x with
 |.ref n=>match dA h n with
  |some xs=>match f xs ps with
   |some (r,ys)=>.ok r (ZK (.lst ys))
   |none=>.bad
  |none=>.bad
 |_=>.bad
theorem HS{f:Y9 0->Y9 0->y_ (PV×Y9 0)}{x:V}{xs:x_ V}{Q:VK}(h:rM C (onL f) x xs H Q):∃φ l ps ys vs r zs,x=.ref l/\H l=a_ (.lst vs)/\A_ ys vs/\A_ ps xs/\f ys ps=a_ (r,zs)/\
  ∀(v:V)(ws:x_ V),p_ r v->A_ zs ws->Q v (R_ l (.lst ws)):=by
 let⟨φ,h,p,ps,rh,rx,rs,po⟩:=h;unfold onL at po;cases p with
 |ref n=>
  let⟨a,rfl,ha⟩:=rx;dsimp only at po;cases e:dA h n with
  |none=>rw[e]at po;show po.elim
  |some ys=>
   rw[e]at po;dsimp only at po;let⟨vs,hH,ra⟩:=Y0 (jE e);cases ef:f ys ps with
   |none=>rw[ef]at po;show po.elim
   |some rz=>rw[ef]at po;let⟨r,zs⟩:=rz;show⟨φ,a,ps,ys,vs,r,zs,rfl,hH,ra,rs,ef,λv ws rv cf=>po.lset rh ha hH cf rv⟩
 |_=>exact po.elim
def cL:Y9 0->Y9 0->y_ (PV×Y9 0):=λxs ps=>match ps with
 |[p]=>if xs.length<zf then a_ (.non,xs++[p]) else b_
 |_=>b_
def Ku:Y9 0->Y9 0->y_ (PV×Y9 0):=λxs ps=>match ps with
 |[]=>match xs[xs.length-1]? with
  |some p=>a_ (p,xs.dropLast)
  |none=>b_
 |_=>b_
def tI:Y9 0->Y9 0->y_ (PV×Y9 0):=λxs ps=>match ps with
 |[]=>a_ (.non,[])
 |_=>b_
theorem RVs.dropLast(r:ZQ 0):A_ xs.dropLast vs.dropLast:=by rw[List.dropLast_eq_take,List.dropLast_eq_take,r.length];show r.take _
theorem Kv:MtR X "list.append" (rM C (onL cL)):=MtR.imp (show MtR X "list.append" J7 from CT) λx xs H Q h=>by
 let⟨φ,l,ps,ys,vs,r,zs,rfl,hH,ra,rs,ef,q⟩:=HS h;unfold cL at ef;split at ef
 ·split at ef
  ·rename_i hz;cases ef
   let⟨v,rfl,rx⟩:=rs.one;show⟨l,vs,v,rfl,rfl,hH,by rw[<-ra.length];show hz,q .non _ rfl (ra.snoc rx)⟩
  ·cases ef
 ·cases ef
theorem hZ:MtS C k X "list" isL "list.append" (onL cL):=λc=>⟨Kv,λφ H h p x rh rv e=>E4 rh rv e⟩
theorem S7:MtR X "list.pop" (rM C (onL Ku)):=MtR.imp (show MtR X "list.pop" Tz from Rp) λx xs H Q h=>by
 let⟨φ,l,ps,ys,vs,r,zs,rfl,hH,ra,rs,ef,q⟩:=HS h;unfold Ku at ef;split at ef
 ·split at ef
  ·rename_i p hp;cases ef
   have:xs=[]:=by cases xs <;> first|rfl|exact rs.elim
   subst this;rw[ra.length]at hp;let⟨v,hv,rv⟩:=ra.at hp;show⟨l,vs,v,rfl,rfl,hH,hv,q v _ rv ra.dropLast⟩
  ·cases ef
 ·cases ef
theorem U6:MtS C k X "list" isL "list.pop" (onL Ku):=λc=>⟨S7,λφ H h p x rh rv e=>E4 rh rv e⟩
theorem Mj:MtR X "list.clear" (rM C (onL tI)):=MtR.imp (show MtR X "list.clear" LG from LH) λx xs H Q h=>by
 let⟨φ,l,ps,ys,vs,r,zs,rfl,hH,ra,rs,ef,q⟩:=HS h;unfold tI at ef;split at ef
 ·cases ef
  have:xs=[]:=by cases xs <;> first|rfl|exact rs.elim
  subst this;show⟨l,vs,rfl,rfl,hH,q .non _ rfl trivial⟩
 ·cases ef
theorem Jl:MtS C k X "list" isL "list.clear" (onL tI):=λc=>⟨Mj,λφ H h p x rh rv e=>E4 rh rv e⟩
def U7(K:y0):R2:=λx y H Q=>∃a b ys,x=.ref a/\y=.ref b/\ZD a []/\ZD b ys/\Q (.ref b) H
theorem ON:Y5 (WU .Add) (U7 X.K):=by
 intro FR s σ H x y v u Q I rx ry h;let⟨a,b,ys,rfl,rfl,ha,hb,q⟩:=h;cases rx
 cases ry
 let⟨its,r1,p1,_⟩:=I.tuple ha;let⟨bp,r2,p2,_⟩:=I.tuple hb;cases r1
 let⟨⟨cls,dd,data,sl⟩,ho,hc,n,hd⟩:=id p1;let⟨⟨ip,ee,data2,e8⟩,c3,bu,n2,hd2⟩:=id p2;simp only at hc hd bu hd2;subst hc hd bu hd2;show concat_meets ⟨_,ho,rfl⟩ ⟨_,c3,rfl⟩ noFill_tuple_add seq_tuple_add PySem.F.slot_tuple_add PySem.F.entry_tuple_add (PySem.F.args_tuple_add_2 _ _)
   (tuple_addW0 a b ([]:ZE 0).toArray bp.toArray n n2 dd ee sl e8 (by simp)) ⟨ho,c3,⟨.ref b,H,I,rfl,q⟩⟩
def bK:PV->PV->PH->Rs PV:=λx y h=>match x,y with
 |.tup [],.tup ys=>.ok (.tup ys) h
 |x,y=>RW x y h
theorem dH:Y3 (WU .Add) bK:=λc=>((TZ c).or (by have:=ON (X:=X);rw[c.K]at this;show this)).imp λx y H Q h=>by
 let⟨φ,h,p,q,rh,rx,ry,po⟩:=h;unfold bK at po;split at po
 ·let⟨a,vs,rfl,sa,ra⟩:=rx;let⟨b,us,rfl,sb,rb⟩:=ry;have:vs=[]:=by cases vs <;> first|rfl|exact ra.elim
  subst this;show .inr ⟨a,b,us,rfl,rfl,sa,sb,P1 ⟨b,us,rfl,sb,rb⟩⟩
 ·show .inl ⟨φ,h,p,q,rh,rx,ry,po⟩
open PySem
@[irreducible]def Rs.W{α:Type}(r:Rs α)(Q:α->PH->Prop):Prop:=match r with
 |.ok a h=>Q a h
 |_=>False
structure FE where
 nx:Ev->PH->Prop
 rt:PV->PH->Prop
 bk:Ev->PH->Prop:=λ_ _=>False
 ct:Ev->PH->Prop:=λ_ _=>False
@[irreducible]def Fl.W(r:Fl)(E:FE):Prop:=match r with
 |.nx δ h=>E.nx δ h
 |.rt p h=>E.rt p h
 |.bk δ h=>E.bk δ h
 |.ct δ h=>E.ct δ h
 |_=>False
@[irreducible]def Lt(b:Ms)(E:FE)(δ:Ev)(h:PH):Prop:=(b δ h).W E
variable{ys:Y9 0}{h1:PH}{args:Y9 0}
section
unseal Rs.W Fl.W Lt
variable{α β:Type}{Q:α->PH->Prop}{E:FE}
@[simp]theorem CA{a:α}:(Rs.ok a h).W Q=Q a h:=(rfl)
@[simp]theorem Vt:(Fl.nx δ h).W E=E.nx δ h:=(rfl)
@[simp]theorem VS:(Fl.rt p h).W E=E.rt p h:=(rfl)
@[simp]theorem HU{Q:β->PH->Prop}{r:Rs α}{f:α->PH->Rs β}:(r.bind f).W Q=r.W λa h=>(f a h).W Q:=by cases r <;> rfl
@[simp]theorem HV{r:Rs α}{f:α->PH->Fl}:(r.fl f).W E=r.W λa h=>(f a h).W E:=by cases r <;> rfl
theorem HW{Q':α->PH->Prop}{r:Rs α}(h:r.W Q)(i:∀a h,Q a h->Q' a h):r.W Q':=by cases r <;> first|exact i _ _ h|exact h
@[simp]theorem VM{c:Prop}[Decidable c]{x y:Rs α}:(if c then x else y).W Q=if c then x.W Q else y.W Q:=by split <;> rfl
@[simp]theorem VN:(Rs.bad:Rs α).W Q=False:=(rfl)
@[simp]theorem Vu:Fl.bad.W E=False:=(rfl)
theorem kG{r:Rs α}(w:r.W Q):∃a h,r=.ok a h/\Q a h:=by
 cases r with
 |ok a h=>exact⟨a,h,rfl,w⟩
 |exc=>exact w.elim
 |bad=>exact w.elim
variable{a b:Ms}{t ta tb:Ev->PH->ZH 0}{g g':PV->PV->PH->Rs PV}
theorem aO:(aU a b δ h).W E=(a δ h).W { E with nx:=Lt b E}:=by
 change(match a δ h with|.nx δ1 h1=>b δ1 h1|r=>r).W E=_
 cases a δ h <;> rfl
theorem now{b:Ms}(w:(b δ h).W E):Lt b E δ h:=w
@[simp]theorem VO:(iL δ h).W E=E.nx δ h:=(rfl)
@[simp]theorem VP:(S0 δ h).W E=E.ct δ h:=(rfl)
@[simp]theorem QC:(bZ i m δ h).W E=(m δ h).W λp h=>E.nx (δ.set i (a_ p)) h:=by simp[bZ]
@[simp]theorem VQ{t:Mg}:(HP m t δ h).W E=(m δ h).W λp h=>∃δ',t p δ=a_ δ'/\E.nx δ' h:=by
 unfold HP;cases m δ h with
 |ok p h1=>
  change(match t p δ with|some δ'=>Fl.nx δ' h1|none=>.bad).W E=∃δ',t p δ=a_ δ'/\E.nx δ' h1
  cases t p δ <;> simp[Fl.W]
 |exc=>rfl
 |bad=>rfl
@[simp]theorem QD:(lQ m δ h).W E=(m δ h).W λ_ h=>E.nx δ h:=by simp[lQ]
@[simp]theorem Ml:(cV m δ h).W E=(m δ h).W E.rt:=by simp[cV]
@[simp]theorem iM:(gY t a b δ h).W E=(t δ h).W λc h=>if c=true then(a δ h).W E else(b δ h).W E:=by
 unfold gY;rw[HV];congr;funext c h;cases c <;> simp
@[simp]theorem U8:mV i δ h=match A6 δ i with|some p=>.ok p h|none=>.bad:=(rfl)
@[simp]theorem QE:mC p δ h=.ok p h:=(rfl)
@[simp]theorem OO:aG g ma mb δ h=(ma δ h).bind λx h1=>(mb δ h1).bind λy h2=>g x y h2:=(rfl)
@[simp]theorem Vv{g:PV->PH->Rs PV}:mUn g ma δ h=(ma δ h).bind g:=(rfl)
@[simp]theorem UJ:bW m δ h=(m δ h).bind tru:=(rfl)
@[simp]theorem U9:pE t δ h=(t δ h).bind λb h1=>.ok (!b) h1:=(rfl)
@[simp]theorem UK:tG ta tb δ h=(ta δ h).bind λb h1=>if b=true then .ok true h1 else tb δ h1:=by unfold tG;congr 1;funext b h1;cases b <;> simp
@[simp]theorem Vw:mIf t ma mb δ h=(t δ h).bind λb h1=>if b=true then ma δ h1 else mb δ h1:=by unfold mIf;congr 1;funext b h1;cases b <;> simp
def bl2(x:PV)(f g:Rs PV):Rs PV:=match x with
 |.bl true=>f
 |.bl false=>g
 |_=>.bad
@[simp]theorem Vx{b:Bool}{f g:Rs PV}:bl2 (.bl b) f g=if b=true then f else g:=by cases b <;> simp[bl2]
@[simp]theorem U':FL ma mb δ h=(ma δ h).bind λx h1=>bl2 x (mb δ h1) (.ok (.bl false) h1):=by unfold FL;first|rfl|(congr 1;funext x h1;cases x <;> first|rfl|(rename_i b;cases b <;> rfl))
@[simp]theorem UL:Mb g g' ma mb mc δ h=(ma δ h).bind λx h1=>(mb δ h1).bind λy h2=>(g x y h2).bind λz h3=>bl2 z ((mc δ h3).bind λw h4=>(g' y w h4).bind M9) (.ok (.bl false) h3):=by unfold Mb;first|rfl|(congr 1;funext x h1;congr 1;funext y h2;congr 1;funext z h3;cases z <;> first|rfl|(rename_i b;cases b <;> rfl))
@[simp]theorem Ua{b:Bool}:M9 (.bl b) h=.ok (.bl b) h:=(rfl)
@[simp]theorem Jm:bL ms δ h=(ms δ h).bind λxs h1=>if xs.length<=zf then .ok (.tup xs) h1 else .bad:=(rfl)
@[simp]theorem OP:dW ms δ h=(ms δ h).bind λxs h1=>if xs.length<=zf then .ok (.ref h1.length) (h1++[.lst xs]) else .bad:=(rfl)
@[simp]theorem T4:mN δ h=.ok (.ref h.length) (h++[.dK []]):=(rfl)
@[simp]theorem OQ:aE δ h=.ok [] h:=(rfl)
@[simp]theorem Mm:aB m ms δ h=(m δ h).bind λx h1=>(ms δ h1).bind λxs h2=>.ok (x::xs) h2:=(rfl)
@[simp]theorem S8{g:Y9 0->PH->Rs PV}:mCB g ms δ h=(ms δ h).bind g:=(rfl)
@[simp]theorem Ub{f:Fn}:dF n f ms δ h=(ms δ h).bind λps h1=>if ps.length=n then f ps h1 else .bad:=(rfl)
@[simp]theorem OR:qA δ h=.ok b_ h:=(rfl)
def Mn(x:PV)(h:PH):Rs (Zz 0):=match x with
 |.int i=>.ok (a_ i) h
 |_=>.bad
@[simp]theorem HX{i:Int}:Mn (.int i) h=.ok (a_ i) h:=(rfl)
@[simp]theorem Uc:mP m δ h=(m δ h).bind Mn:=(rfl)
@[simp]theorem S9:mSl m ml mh δ h=(m δ h).bind λx h1=>(ml δ h1).bind λl h2=>(mh δ h2).bind λu h3=>vSl x l u h3:=(rfl)
@[simp]theorem Vy{g:PV->Y9 0->PH->Rs PV}:mMt ty g m ms δ h=(m δ h).bind λx h1=>if ty x h1=true then(ms δ h1).bind λps h2=>g x ps h2 else .bad:=(rfl)
@[simp]theorem UM{g:PV->Y9 0->PH->Rs PV}:qE ty g m δ h=(m δ h).bind λx h1=>if ty x h1=true then g x [] h1 else .bad:=(rfl)
@[simp]theorem kH:zf=16777216:=by rw[Wm]
theorem OS{i j:Int}(c:(-18446744073709551616<i/\i<18446744073709551616)\/(-18446744073709551616<j/\j<18446744073709551616)):HL (.int i) (.int j) h=.ok (.int (i*j)) h:=by
 change(if Fo i j then _ else _)=_
 show if_pos c
@[simp]theorem Ud{i j:Int}(c:(-18446744073709551616<i/\i<18446744073709551616)\/(-18446744073709551616<j/\j<18446744073709551616)):vInt Fo (λi j=>i*j) (.int i) (.int j) h=.ok (.int (i*j)) h:=OS c
@[simp]theorem UN{i j:Int}(c:0<j/\j<1073741824):vInt Lm (λi j=>i/j) (.int i) (.int j) h=.ok (.int (i/j)) h:=if_pos c
@[simp]theorem UO{i j:Int}(c:0<j):vInt (λ_ j=>0<j) (λi j=>i%j) (.int i) (.int j) h=.ok (.int (i%j)) h:=if_pos c
@[simp]theorem UP{i j:Int}(c:0<=j/\j<=1000000/\-18446744073709551616<i/\i<18446744073709551616):vInt JX (λi j=>i ^ j.toNat) (.int i) (.int j) h=.ok (.int (i ^ j.toNat)) h:=by
 change(if JX i j then _ else _)=_
 refine if_pos ⟨c.1,c.2.1,?_⟩;let⟨_,_,h1,h2⟩:=c;omega
@[simp]theorem UQ{i j:Int}:HK (.int i) (.int j) h=.ok (.int (i-j)) h:=(rfl)
@[simp]theorem Kw{i j:Int}:bK (.int i) (.int j) h=.ok (.int (i+j)) h:=(rfl)
@[simp]theorem T5{y:Str}(c:x.length+y.length<=16777216):bK (.str x) (.str y) h=.ok (.str (x++y)) h:=if_pos c
@[simp]theorem Dh(c:xs.length+ys.length<=16777216):bK (.tup xs) (.tup ys) h=.ok (.tup (xs++ys)) h:=by
 cases xs with
 |nil=>rfl
 |cons x xs=>exact if_pos ⟨rfl,c⟩
@[simp]theorem Ue{f:Int->Int->Bool}{g:x_ Nat->x_ Nat->Bool}{i j:Int}:Kr f g (.int i) (.int j) h=.ok (.bl (f i j)) h:=(rfl)
@[simp]theorem Vz{b:Bool}:tru (.bl b) h=.ok b h:=(rfl)
@[simp]theorem Ug:ofO (a_ p) h=.ok p h:=(rfl)
@[simp]theorem UR{i:Int}:vIx (.tup xs) (.int i) h=ofO (atI xs i) h:=(rfl)
@[simp]theorem VA{i:Int}:vIx (.fl xs) (.int i) h=ofO (atI xs i) h:=(rfl)
theorem mD{i:Int}(e:h[n]?=a_ (.lst xs)):vIx (.ref n) (.int i) h=ofO (atI xs i) h:=by simp[vIx,aZ,e]
@[simp]theorem Jn{z:Str}{i:Int}(c:z.length<=16777216):vIx (.str z) (.int i) h=ofO ((atI z.cps.toList i).map λc=>.str ⟨#[c]⟩) h:=if_pos c
@[simp]theorem Uh:qB [.tup xs] h=.ok (.int xs.length) h:=(rfl)
@[simp]theorem US:qB [.fl xs] h=.ok (.int xs.length) h:=(rfl)
@[simp]theorem Ui(c:x.length<=16777216):qB [.str x] h=.ok (.int x.length) h:=if_pos c
theorem FN(e:h[n]?=a_ (.lst xs)):qB [.ref n] h=.ok (.int xs.length) h:=by simp[qB,aZ,e]
@[simp]theorem FO{i:Y9 0}{c:String}:pO [.tup i,.ty c] h=if c∈known then .ok (.bl (Bo "tuple" c)) h else .bad:=(rfl)
theorem Bp{c:String}(e:h[n]?=a_ (.lst xs)):pO [.ref n,.ty c] h=if c∈known then .ok (.bl (Bo "list" c)) h else .bad:=by simp[pO,tyN,e]
theorem fB(e:h[n]?=a_ (.lst xs)):isL (.ref n) h=true:=by simp[isL,dA,e]
theorem dM(e:h[n]?=a_ (.lst xs))(c:xs.length<16777216):onL cL (.ref n) [p] h=.ok .non (ZK (.lst (xs++[p]))):=by simp[onL,dA,e,cL,c]
theorem OT{α:Type}{xs:x_ α}{i:Int}(h0:0<=i)(h1:i<xs.length):atI xs i=xs[i.toNat]?:=by unfold atI ixN;rw[if_pos h0,if_pos h1];rfl
theorem E5{g:PH->Bool}{tg:Mg}{body:Ms}{E:FE}(I:Nat->Ev->PH->Prop):∀(xs:Y9 0)(k:Nat)(δ:Ev)(h:PH),I k δ h->
  (∀i x δ h,k<=i->xs[i-k]?=a_ x->I i δ h->g h=true/\∃δ1,tg x δ=a_ δ1/\(body δ1 h).W { nx:=I (i+1),ct:=I (i+1),rt:=E.rt,bk:=E.nx})->
  (∀δ h,I (k+xs.length) δ h->g h=true/\E.nx δ h)->(mB g tg body xs δ h).W E
 |[],k,δ,h,i0,_,fin=>by let⟨h1,h2⟩:=fin δ h i0;simp[mB,h1,h2]
 |x::xs,k,δ,h,i0,step,fin=>by
  let⟨h1,δ1,h2,h3⟩:=step k x δ h (zd _) (by simp) i0;let go:∀δ2 h2,I (k+1) δ2 h2->(mB g tg body xs δ2 h2).W E:=λδ2 h2 i2=>
   E5 I xs (k+1) δ2 h2 i2 (λi y δ h hk hy=>step i y δ h ⋯ (by
    have:i-k=(i-(k+1))+1:=⋯;rw[this,W7];show hy)) (λδ h hi=>fin δ h (by
    let e:k+(x::xs).length=k+1+xs.length:=by simp;omega
    rw[e];show hi))
  unfold mB;rw[if_pos h1,h2]
  change Fl.W (match body δ1 h with|.nx δ2 h2=>mB g tg body xs δ2 h2|.ct δ2 h2=>mB g tg body xs δ2 h2|.bk δ2 h2=>.nx δ2 h2|r=>r) E
  cases e:body δ1 h with
  |nx δ2 h2=>rw[e]at h3;show go δ2 h2 h3
  |ct δ2 h2=>rw[e]at h3;show go δ2 h2 h3
  |bk δ2 h2=>rw[e]at h3;show h3
  |rt p h2=>rw[e]at h3;show h3
  |exc=>rw[e]at h3;show h3
  |bad=>rw[e]at h3;show h3
theorem Mp{body:Ms}{j:Int}(I:Nat->Ev->PH->Prop)(e:ms δ h=.ok [.int j] h)(hj:-4611686018427387904<=j/\j<4611686018427387904)(h0:I 0 δ h)(step:∀(q:Nat) δ h,(q:Int)<j->I q δ h->(body (δ.set i (d_ q)) h).W { nx:=I (q+1),ct:=I (q+1),rt:=E.rt,bk:=E.nx})(fin:∀δ h,I j.toNat δ h->E.nx δ h):(pN (qC ms) (gN i) body δ h).W E:=by
 unfold pN qC;rw[e];let je:-(2 ^ 62)<=j/\j<2 ^ 62:=hj;simp only[Rs.bind_ok,Ji,if_pos je,Rs.fl_ok];refine E5 I _ 0 δ h h0 (λq x δ h _ hx hi=>?_) (λδ h hi=>⟨rfl,fin δ h (by rw[jF,Nat.zero_add]at hi;show hi)⟩);let hq:q<j.toNat:=by have:=(yy.mp hx).1;rw[jF]at this;omega
 rw[Nat.sub_zero,Bm _ _ _ hq]at hx;cases hx
 refine⟨rfl,_,rfl,?_⟩;rw[Int.zero_add];show step q δ h ⋯ hi
theorem qF{tg:Mg}{body:Ms}(I:Nat->Ev->PH->Prop)(e:m δ h=.ok (.ref n) h1)(hn:h1[n]?=a_ (.lst xs))(h0:I 0 δ h1)(keep:∀q δ h,q<=xs.length->I q δ h->h[n]?=a_ (.lst xs))(step:∀(q:Nat) x δ h,xs[q]?=a_ x->I q δ h->∃δ1,tg x δ=a_ δ1/\(body δ1 h).W { nx:=I (q+1),ct:=I (q+1),rt:=E.rt,bk:=E.nx})(fin:∀δ h,I xs.length δ h->E.nx δ h):(pN (dX m) tg body δ h).W E:=by
 let hk:∀{h:PH},h[n]?=a_ (.lst xs)->Bl n xs h=true:=λ{h} e=>by
  let e3:aZ h n=a_ xs:=by unfold aZ;rw[e]
  unfold Bl;rw[e3];show PV.beqs_self xs
 unfold pN dX;rw[e];let e2:ofSeq (.ref n) h1=.ok ⟨xs,Bl n xs⟩ h1:=by
  let e3:aZ h1 n=a_ xs:=by unfold aZ;rw[hn]
  unfold ofSeq;simp only[e3]
 rw[Rs.bind_ok,e2,Rs.fl_ok];refine E5 I _ 0 δ h1 h0 (λq x δ h _ hx hi=>?_) (λδ h hi=>?_)
 ·let cm:xs[q]?=a_ x:=by simpa using hx
  have:=(yy.mp cm).1;show⟨hk (keep q δ h ⋯ hi),step q x δ h cm hi⟩
 ·let ak:I xs.length δ h:=by simpa using hi
  show⟨hk (keep _ δ h (zd _) ak),fin δ h ak⟩
theorem dY{N:Nat}{body:Ms}{Q:PV->PH->Prop}(w:(body (args.map a_++XO (N-args.length) b_) h).W { nx:=λ_ h=>Q .non h,rt:=Q}):(mFn N body args h).W Q:=by
 unfold mFn;cases e:body (args.map a_++XO (N-args.length) b_) h with
 |nx δ h'=>rw[e]at w;show w
 |rt p h'=>rw[e]at w;show w
 |_=>rw[e]at w;show w.elim
@[simp]theorem VR:gN i p δ=a_ (δ.set i (a_ p)):=(rfl)
@[simp]theorem VB{u:Mgs}{ps:Y9 0}:gTp n u (.tup ps) δ=if ps.length=n then u ps δ else b_:=(rfl)
@[simp]theorem VC{t:Mg}{u:Mgs}{r:Y9 0}:gCn t u (p::r) δ=(t p δ).bind (u r):=(rfl)
@[simp]theorem VD:gNl [] δ=a_ δ:=(rfl)
end
def Ext(h h':PH):Prop:=∀(n:Nat)(o:MO),h[n]?=a_ o->h'[n]?=a_ o
theorem Ext.refl(h:PH):P2 h:=λ_ _ e=>e
variable{h2:PH}
theorem Ext.trans(a:P2 h1)(b:Ext h1 h2):P2 h2:=λn o e=>b n o (a n o e)
theorem Ext.app(h g:PH):P2 (h++g):=λn o e=>by rw[Wj (yy.mp e).1];show e
theorem Ext.len{h':PH}(e:P2 h'):h.length<=h'.length:=by
 rcases Nat.lt_or_ge h'.length h.length with z|z
 ·have:h[h'.length]?=a_ h[h'.length]:=by simp[z]
  have:=(yy.mp (e _ _ this)).1;omega
 ·show z
theorem aN:(h++[o])[h.length]?=a_ o:=by simp
variable{o':MO}
theorem cG(e:h[n]?=a_ o):(ZK o')[n]?=a_ o':=Wz (yy.mp e).1
theorem bC{m:Nat}(e:h[m]?=a_ o)(d:n≠m):(ZK o')[m]?=a_ o:=by rw[Wd d];show e
def PV.pl:Nat->PV->Bool
 |_,.non=>true
 |_,.int _=>true
 |_,.str _=>true
 |n+1,.tup xs=>xs.all (PV.pl n)
 |_,_=>false
theorem OU{x:PV}{d:D}{ds:x_ D}(h1:x.d=a_ d)(h2:PV.ds xs=a_ ds):PV.ds (x::xs)=a_ (d::ds):=by simp[PV.ds,h1,h2]
theorem Uj{ds:x_ D}(h:PV.ds xs=a_ ds):(PV.tup xs).d=a_ (.tup ds):=by simp[PV.d,h]
theorem cM{d:D}(h:(PV.tup xs).d=a_ d):∃ds,PV.ds xs=a_ ds/\d=.tup ds:=by
 unfold PV.d at h;split at h
 ·rename_i ds e;cases h;show⟨ds,e,rfl⟩
 ·cases h
theorem eM{x:PV}{ds:x_ D}(h:PV.ds (x::xs)=a_ ds):∃d r,x.d=a_ d/\PV.ds xs=a_ r/\ds=d::r:=by
 unfold PV.ds at h;split at h
 ·rename_i d r e1 e2;cases h;show⟨d,r,e1,e2,rfl⟩
 ·cases h
theorem yA:∀(n:Nat)(x:PV),x.pl n=true->∃d,x.d=a_ d/\d.depth<=n:=by
 intro n
 induction n with
 |zero=>intro x h;cases x <;> first|exact⟨_,rfl,zd _⟩|(simp[PV.pl]at h)
 |succ n ih=>
  intro x h;cases x with
  |tup xs=>
   let h:xs.all (PV.pl n)=true:=h;let many:∀(xs:Y9 0),xs.all (PV.pl n)=true->∃ds,PV.ds xs=a_ ds/\Q_ 0<=n:=by
    intro xs
    induction xs with
    |nil=>intro _;show⟨[],rfl,z8 _⟩
    |cons x xs ihx=>
     intro h;simp only[Xq,zp]at h;let⟨d,h1,h2⟩:=ih x h.1;let⟨ds,h3,h4⟩:=ihx h.2;refine⟨d::ds,OU h1 h3,?_⟩
     change max d.depth (Q_ 0)<=n
     omega
   let⟨ds,h1,h2⟩:=many xs h;refine⟨.tup ds,Uj h1,?_⟩
   change Q_ 0+1<=n+1
   omega
  |_=>first|exact⟨_,rfl,z8 _⟩|(simp[PV.pl]at h)
theorem Jo:∀(n:Nat)(x y:PV)(d e:D),x.pl n=true->y.pl n=true->x.d=a_ d->y.d=a_ e->eqD d e=decide (x=y):=by
 intro n
 induction n with
 |zero=>
  intro x y d e hx hy h1 h2;cases x <;> first|(simp[PV.pl]at hx;done)|skip
  all_goals cases h1
  all_goals cases y <;> first|(simp[PV.pl]at hy;done)|skip
  all_goals cases h2
  all_goals simp only[eqD]
  all_goals rw[X2]
  all_goals simp
 |succ n ih=>
  intro x y d e hx hy h1 h2;let lists:∀(xs ys:Y9 0)(ds es:x_ D),xs.all (PV.pl n)=true->ys.all (PV.pl n)=true->PV.ds xs=a_ ds->PV.ds ys=a_ es->iO ds es=decide (xs=ys):=by
   intro xs
   induction xs with
   |nil=>
    intro ys ds es _ _ h1 h2;cases h1
    cases ys with
    |nil=>cases h2;rfl
    |cons y ys=>let⟨d,r,_,_,rfl⟩:=eM h2;simp[iO]
   |cons x xs ihx=>
    intro ys ds es hx hy h1 h2;let⟨d,r,g1,g2,rfl⟩:=eM h1;simp only[Xq,zp]at hx;cases ys with
    |nil=>cases h2;simp[iO]
    |cons y ys=>let⟨e,q,g3,g4,rfl⟩:=eM h2;simp only[Xq,zp]at hy;simp only[iO,ih x y d e hx.1 hy.1 g1 g3,ihx ys r q hx.2 hy.2 g2 g4];rw[X2];simp
  cases x with
  |tup xs=>
   let⟨ds,g1,rfl⟩:=cM h1;cases y with
   |tup ys=>let⟨es,g2,rfl⟩:=cM h2;simp only[eqD,lists xs ys ds es hx hy g1 g2];rw[X2];simp
   |non=>cases h2;simp[eqD]
   |int j=>cases h2;simp[eqD]
   |str j=>cases h2;simp[eqD]
   |_=>simp[PV.pl]at hy
  |non=>
   cases h1
   cases y with
   |tup ys=>let⟨es,g2,rfl⟩:=cM h2;simp[eqD]
   |non=>cases h2;simp[eqD]
   |int j=>cases h2;simp[eqD]
   |str j=>cases h2;simp[eqD]
   |_=>simp[PV.pl]at hy
  |int i=>
   cases h1
   cases y with
   |tup ys=>let⟨es,g2,rfl⟩:=cM h2;simp[eqD]
   |non=>cases h2;simp[eqD]
   |int j=>cases h2;simp only[eqD];rw[X2];simp
   |str j=>cases h2;simp[eqD]
   |_=>simp[PV.pl]at hy
  |str i=>
   cases h1
   cases y with
   |tup ys=>let⟨es,g2,rfl⟩:=cM h2;simp[eqD]
   |non=>cases h2;simp[eqD]
   |int j=>cases h2;simp[eqD]
   |str j=>cases h2;simp only[eqD];rw[X2];simp
   |_=>simp[PV.pl]at hy
  |_=>simp[PV.pl]at hx
theorem Ax{x:PV}{y:PV}(hx:x.pl 40=true)(hy:y.pl 40=true):mM x y h=a_ (decide (x=y)):=by let⟨d,h1,h2⟩:=yA 40 x hx;let⟨e,h3,h4⟩:=yA 40 y hy;unfold mM;rw[h1,h3];simp only[h2,if_true,Jo 40 x y d e hx hy h1 h3]
theorem HY{x:PV}{y:PV}(hx:x.pl 40=true)(hy:y.pl 40=true):vEq x y h=.ok (.bl (decide (x=y))) h:=by unfold vEq;rw[Ax hx hy];rfl
theorem S'{x:PV}{y:PV}(hx:x.pl 40=true)(hy:y.pl 40=true):vNe x y h=.ok (.bl (!decide (x=y))) h:=by unfold vNe;rw[Ax hx hy];rfl
@[simp]theorem UT{i j:Int}:vEq (.int i) (.int j) h=.ok (.bl (decide (i=j))) h:=by rw[HY rfl rfl];congr 2;simp
@[simp]theorem UU{i j:Int}:vNe (.int i) (.int j) h=.ok (.bl (!decide (i=j))) h:=by rw[S' rfl rfl];congr 3;simp
@[simp]theorem UV{i j:Str}:vEq (.str i) (.str j) h=.ok (.bl (decide (i=j))) h:=by rw[HY rfl rfl];congr 2;simp
theorem Bq{m:Nat}(e1:h[n]?=a_ (.lst xs))(e2:h[m]?=a_ (.lst ys))(hx:xs.all (PV.pl 39)=true)(hy:ys.all (PV.pl 39)=true):mM (.ref n) (.ref m) h=a_ (decide (xs=ys)):=by
 let e3:lY (.ref n) h=a_ xs:=by unfold lY aZ;simp only[e1]
 let e4:lY (.ref m) h=a_ ys:=by unfold lY aZ;simp only[e2]
 let cm:(PV.tup xs).pl 40=true:=hx;let e9:(PV.tup ys).pl 40=true:=hy;let⟨d,h1,h2⟩:=yA 40 _ cm;let⟨e,h3,h4⟩:=yA 40 _ e9;let⟨ds,g1,rfl⟩:=cM h1;let⟨es,g2,rfl⟩:=cM h3;let h5:=Jo 40 _ _ _ _ cm e9 h1 h3;let cz:Q_ 0+1<=40:=h2;let vk:iO ds es=decide (xs=ys):=by have:iO ds es=decide (PV.tup xs=PV.tup ys):=h5;rw[this,X2];simp
 unfold mM;let n1:(PV.ref n).d=b_:=rfl;rw[n1];simp only[e3,e4,g1,g2,show Q_ 0<=40 by omega,if_true,vk]
theorem OV{m:Nat}(e1:h[n]?=a_ (.lst xs))(e2:h[m]?=a_ (.lst ys))(hx:xs.all (PV.pl 39)=true)(hy:ys.all (PV.pl 39)=true):vEq (.ref n) (.ref m) h=.ok (.bl (decide (xs=ys))) h:=by unfold vEq;rw[Bq e1 e2 hx hy];rfl
section
variable{α:Type}{a b c d e f g:α}{r:x_ α}
theorem Ay{xs:x_ α}{v:α}(i:Nat)(h:xs[i]?=a_ v):atI xs (i:Int)=a_ v:=wY h
@[simp]theorem VT:atI (a::r) 0=a_ a:=Ay 0 rfl
@[simp]theorem VU:atI (a::b::r) 1=a_ b:=Ay 1 rfl
@[simp]theorem VV:atI (a::b::c::r) 2=a_ c:=Ay 2 rfl
@[simp]theorem VW:atI (a::b::c::d::e::r) 4=a_ e:=Ay 4 rfl
theorem OW{xs:x_ α}{i:Int}(h:xs≠[]):∃v,atI xs (i%(xs.length:Int))=a_ v/\v∈xs:=by let h0:0<xs.length:=List.length_pos_iff.mpr h;let⟨v,h1,h2⟩:=RC (xs:=xs) (i:=i%(xs.length:Int)) (Int.emod_nonneg _ ⋯) (Int.emod_lt_of_pos _ ⋯);show⟨v,h1,Wn h2⟩
end
open PySem.SeqAt
open PySem.AutoSeq1 (wpAny_loadPart')
open PySem.MeetsSeq PySem.MeetsSeq2 PySem.MeetsSeq3
def Mq(A:td)(s:q_)(v u:qe)(b:Bool):Prop:=∀(prog:ve)(w:u_)(E:f_ 0)(Q:f_ 0),Q (.bool b) s->B_ (richCompare .Lt v u) Q E s
def Uk(A:td)(s:q_)(v u:qe)(d e:D):Prop:=EqAt A s v u (eqD d e)/\(eqD d e=false->∀b,ltD d e=a_ b->Mq A s v u b)
abbrev Di(A:td)(s:q_):ZE 0->ZE 0->x_ D->x_ D->Prop:=λvs us ds es=>vs.length=ds.length/\us.length=es.length/\∀(j:Nat) v u d e,vs[j]?=a_ v->us[j]?=a_ u->ds[j]?=a_ d->es[j]?=a_ e->Uk A s v u d e
theorem Di.tail{v:qe}{vs:ZE 0}{d e:D}{ds es:x_ D}(h:Di A s (v::vs) (u::us) (d::ds) (e::es)):Uk A s v u d e/\Di A s vs us ds es:=⟨h.2.2 0 v u d e rfl rfl rfl rfl,by have:=h.1;simpa using this,by have:=h.2.1;simpa using this,λj v u d e h1 h2 h3 h4=>h.2.2 (j+1) v u d e (ke h1) (ke h2) (ke h3) (ke h4)⟩
theorem vI(l b:r_)(items bc:Y6 0)(n n2:Nat)(dd ee:y_ r_)(sl e8:l_ 0)(ds es:x_ D)(c:Bool)(hc:sZ ds es=a_ c):
  Meets (Builtin.«tuple.__lt__» ⟨[.ref l,.ref b],[]⟩)
   (λA R s=>s.heap.get? l=a_ {cls:=.type "tuple",dict:=dd,data:=.seq items n,slots:=sl}/\Y1 0=a_ {cls:=.type "tuple",dict:=ee,data:=.seq bc n2,slots:=e8}/\
    Di A.in1 s items.toList bc.toList ds es/\R (.ok (.ret (.bool c))) s):=
 .of_wp λprog w A R s h=>by
  let⟨hp,g,d,tk,os⟩:=s;let⟨hl,hb,hit,h⟩:=h;let f2:=AutoSeq1.sub_tuple_tuple;let z1:items.size=ds.length:=by rw[<-hit.1];simp
  let z2:bc.size=es.length:=by rw[<-hit.2.1];simp
  wp_walk using wpAny_loadPart' hl,wpAny_loadPart' hb,wpAny_forIn_list _ (λrest b s'=>b.1=b_/\s'=⟨hp,g,d,tk,os⟩/\∃(vs ws:ZE 0)(fq d6:x_ D),rest=vs.zip ws/\
   Di A.in1 ⟨hp,g,d,tk,os⟩ vs ws fq d6/\fq.length+bc.size=d6.length+items.size/\sZ fq d6=a_ c) _
  case turn=>
   rintro⟨y,x⟩ rest b s' ⟨hb',rfl,vs,ws,fq,d6,hz,hvi,hlen,hR⟩;cases vs with
   |nil=>rw[List.zip_nil_left]at hz;cases hz
   |cons v vs=>
    cases ws with
    |nil=>rw[List.zip_nil_right]at hz;cases hz
    |cons u ws=>
     rw[List.zip_cons_cons]at hz;injection hz with hyx hrest;injection hyx with hy hx;subst hy hx;cases fq with
     |nil=>have:=hvi.1;simp at this
     |cons a fq=>
      cases d6 with
      |nil=>have:=hvi.2.1;simp at this
      |cons e d6=>
       let⟨⟨h1,h2⟩,ht⟩:=Di.tail hvi;simp only[Wi]at hlen;simp only[sZ]at hR;refine yx (h1 prog w _ _ ?_);cases q:eqD a e with
       |true=>
        rw[q,Zc 0]at hR
        wp_walk
        show⟨rfl,rfl,_,_,_,_,hrest,ht,⋯,hR⟩
       |false=>
        rw[q,if_neg zj]at hR;let v3:=h2 q c hR prog w
        wp_walk using v3
        show⟨_,rfl,ke h⟩
  case fin=>
   rintro⟨b1,b2⟩ s' ⟨hb',rfl,vs,ws,fq,d6,hz,hvi,hlen,hR⟩;simp only at hb';subst hb';let hv:c=decide (items.size<bc.size):=by
    cases fq with
    |nil=>
     cases d6 with
     |nil=>
      simp only[List.length_nil]at hlen;simp only[sZ]at hR;cases hR
      show(decide_eq_false ⋯).symm
     |cons e d6=>
      simp only[List.length_nil,Wi]at hlen;simp only[sZ]at hR;cases hR
      show(decide_eq_true ⋯).symm
    |cons a fq=>
     cases d6 with
     |nil=>
      simp only[List.length_nil,Wi]at hlen;simp only[sZ]at hR;cases hR
      show(decide_eq_false ⋯).symm
     |cons e d6=>
      exfalso;cases vs with
      |nil=>have:=hvi.1;simp at this
      |cons v vs=>
       cases ws with
       |nil=>have:=hvi.2.1;simp at this
       |cons u ws=>rw[List.zip_cons_cons]at hz;cases hz
   rw[hv]at h
   wp_walk
   show⟨_,rfl,by simpa[Builtin.Tuple.tupleCompareSizes] using h⟩
  case h=>exact⟨rfl,rfl,items.toList,bc.toList,ds,es,rfl,hit,⋯,hc⟩
theorem VE(I:N_ s):∀(n:Nat)(d e:D)(A:td)(x y:V)(v u:qe)(b:Bool),d.depth<=n->A.units+n<cLine->Rep X.K H d x->Rep X.K H e y->Zr v->Z4 u->ltD d e=a_ b->Mq A s v u b:=by
 intro n
 induction n with
 |zero=>
  intro d e A x y v u b hd hu hx hy rx ry hb;cases d with
  |tup ds=>exact absurd hd (by change ¬ Q_ 0+1<=0;omega)
  |int i=>
   cases e with
   |int j=>
    cases hx;cases hy;let⟨t,rfl⟩:=rx;let⟨t',rfl⟩:=ry;simp only[ltD]at hb;cases hb
    show λprog w E Q q=>(PyProof.Rows.lt_int q:B_ (VX .Lt _ _) Q E s)
   |_=>simp[ltD]at hb
  |str i=>
   cases e with
   |str j=>
    cases hx;cases hy;let⟨t,rfl⟩:=rx;let⟨t',rfl⟩:=ry;simp only[ltD]at hb;cases hb
    show λprog w E Q q=>(PyProof.Rows.lt_str q:B_ (VX .Lt _ _) Q E s)
   |_=>simp[ltD]at hb
  |_=>cases e <;> simp[ltD]at hb
 |succ n ih=>
  intro d e A x y v u b hd hu hx hy rx ry hb;by_cases h0:d.depth<=n
  ·show ih d e A x y v u b h0 ⋯ hx hy rx ry hb
  ·cases d with
   |tup ds=>
    cases e with
    |tup es=>
     let ig:Q_ 0<=n:=by have:Q_ 0+1<=n+1:=hd;omega
     let⟨a,vs,rfl,q,r⟩:=hx;cases rx
     let⟨its,rv,p,_⟩:=I.tuple q;let⟨a',cg,rfl,q',r'⟩:=hy;cases ry
     let⟨its',aq,p',_⟩:=I.tuple q';let hb':sZ ds es=a_ b:=by simpa[ltD] using hb
     let⟨⟨cls,dd,data,sl⟩,ho,hc,m,gg⟩:=id p;let⟨⟨ip,ee,data2,e8⟩,c3,bu,m2,hd2⟩:=id p';simp only at hc gg bu hd2;subst hc gg bu hd2;intro prog w E Q hq;refine richCompare_meets_room (op:=.Lt) ⟨_,ho,rfl⟩ ⟨_,c3,rfl⟩ PySem.F.slot_tuple_lt PySem.F.entry_tuple_lt (PySem.F.args_tuple_lt_2 _ _) (vI a a' its.toArray its'.toArray m m2 dd ee sl e8 ds es b hb')
      ⟨ho,c3,⟨?_,?_,?_⟩,show Value.bool b≠Value.notImplemented/\Q (.bool b) s from⟨(λx=>nomatch x),hq⟩⟩ ⋯
     ·let l1:=r.length;let l3:=rv.length
      change its.length=ds.length
      omega
     ·let l1:=r'.length;let l3:=aq.length
      change its'.length=es.length
      omega
     ·intro j v u d e h1 h2 h3 h4;let⟨xv,iu,d9⟩:=r.at h3;let⟨yv,ja,gf⟩:=r'.at h4;let⟨xu,gw,cj⟩:=rv.get iu;let⟨yu,fv,bh⟩:=aq.get ja;let e1:v=xu:=by have:its[j]?=a_ v:=h1;rw[gw]at this;show(zl this).symm
      let e2:u=yu:=by have:its'[j]?=a_ u:=h2;rw[fv]at this;show(zl this).symm
      subst e1 e2;let oj:=D.depths_le h3;refine⟨LR I (n:=n) ⋯ ?_ d9 gf cj bh,λ_ b hb=>ih d e _ xv yv v u b ⋯ ?_ d9 gf cj bh hb⟩
      all_goals (show A.units+1+n<cLine;omega)
    |_=>simp[ltD]at hb
   |_=>exact absurd (z8 n) h0
variable{C:MC}{k:Nat}{X:Cx}
def Ul(x y:PV):y_ Bool:=match x.d,y.d with
 |some d,a_ e=>if d.depth<=40 then ltD d e else b_
 |_,_=>b_
def Jp:PV->PV->PH->Rs PV:=λx y h=>match x,y with
 |.tup xs,.tup ys=>ofB (Ul (.tup xs) (.tup ys)) h
 |x,y=>vLt x y h
theorem Sa(hu:X.A.units+64<cLine)(K:y0)(hK:X.K=K):Y5 (VX .Lt) (λx y H Q=>∃d e b,Rep K H d x/\Rep K H e y/\d.depth<=40/\ltD d e=a_ b/\Q (.bl b) H):=by subst hK;intro FR s σ H x y v u Q I rx ry h;let⟨d,e,b,hx,hy,hd,hb,q⟩:=h;show VE I 40 d e X.A x y v u b hd ⋯ hx hy rx ry hb X.prog X.w X.xe _ ⟨.bl _,H,I,rfl,q⟩
theorem Sb:Y3 (VX .Lt) Jp:=λc=>((Sa c.hu64 C.K c.K).or (Vp c)).imp λx y H Q h=>by
 let⟨φ,h,p,q,rh,rx,ry,po⟩:=h;unfold Jp at po;split at po
 ·let⟨b,e,po⟩:=po.ofB;unfold Ul at e;split at e
  ·rename_i d e' h1 h2;split at e
   ·rename_i hd;show .inl ⟨d,e',b,rx.rep h1,ry.rep h2,hd,e,P1 rfl⟩
   ·cases e
  ·cases e
 ·show .inr ⟨φ,h,p,q,rh,rx,ry,po⟩
@[simp]theorem T6{i j:Int}:Jp (.int i) (.int j) h=.ok (.bl (decide (i<j))) h:=(rfl)
def ltL(f:PV->PV->y_ Bool):Y9 0->Y9 0->y_ Bool
 |[],[]=>a_ false
 |[],_::_=>a_ true
 |_::_,[]=>a_ false
 |x::xs,y::ys=>if x=y then ltL f xs ys else f x y
def ltP:Nat->PV->PV->y_ Bool
 |_,.int a,.int b=>a_ (decide (a<b))
 |_,.str a,.str b=>a_ (decide (a.cps.toList<b.cps.toList))
 |n+1,.tup xs,.tup ys=>ltL (ltP n) xs ys
 |_,_,_=>b_
theorem QF:∀(n:Nat)(x y:PV)(d e:D),x.pl n=true->y.pl n=true->x.d=a_ d->y.d=a_ e->ltD d e=ltP n x y:=by
 intro n
 induction n with
 |zero=>
  intro x y d e hx hy h1 h2;cases x <;> first|(simp[PV.pl]at hx;done)|skip
  all_goals cases h1
  all_goals cases y <;> first|(simp[PV.pl]at hy;done)|skip
  all_goals cases h2
  all_goals simp[ltD,ltP]
 |succ n ih=>
  intro x y d e hx hy h1 h2;let lists:∀(xs ys:Y9 0)(ds es:x_ D),xs.all (PV.pl n)=true->ys.all (PV.pl n)=true->PV.ds xs=a_ ds->PV.ds ys=a_ es->sZ ds es=ltL (ltP n) xs ys:=by
   intro xs
   induction xs with
   |nil=>
    intro ys ds es _ _ h1 h2;cases h1
    cases ys with
    |nil=>cases h2;simp[sZ,ltL]
    |cons y ys=>let⟨d,r,_,_,rfl⟩:=eM h2;simp[sZ,ltL]
   |cons x xs ihx=>
    intro ys ds es hx hy h1 h2;let⟨d,r,g1,g2,rfl⟩:=eM h1;simp only[Xq,zp]at hx;cases ys with
    |nil=>cases h2;simp[sZ,ltL]
    |cons y ys=>let⟨e,q,g3,g4,rfl⟩:=eM h2;simp only[Xq,zp]at hy;simp only[sZ,ltL,Jo n x y d e hx.1 hy.1 g1 g3,ihx ys r q hx.2 hy.2 g2 g4,ih x y d e hx.1 hy.1 g1 g3,decide_eq_true_eq]
  cases x with
  |tup xs=>
   let⟨ds,g1,rfl⟩:=cM h1;cases y with
   |tup ys=>let⟨es,g2,rfl⟩:=cM h2;simp only[ltD,lists xs ys ds es hx hy g1 g2,ltP]
   |non=>cases h2;simp[ltD,ltP]
   |int j=>cases h2;simp[ltD,ltP]
   |str j=>cases h2;simp[ltD,ltP]
   |_=>simp[PV.pl]at hy
  |non=>cases h1;cases y <;> first|(simp[PV.pl]at hy;done)|(let⟨es,g2,rfl⟩:=cM h2;simp[ltD,ltP];done)|(cases h2;simp[ltD,ltP])
  |int i=>cases h1;cases y <;> first|(simp[PV.pl]at hy;done)|(let⟨es,g2,rfl⟩:=cM h2;simp[ltD,ltP];done)|(cases h2;simp[ltD,ltP])
  |str i=>cases h1;cases y <;> first|(simp[PV.pl]at hy;done)|(let⟨es,g2,rfl⟩:=cM h2;simp[ltD,ltP];done)|(cases h2;simp[ltD,ltP])
  |_=>simp[PV.pl]at hx
variable{C:MC}{k:Nat}{X:Cx}
theorem Kx:Y4 X->eL X (.builtin "sum") (λxs H Q=>∃(p:r_)(ns:x_ Int),xs=[.ref p]/\SqL C.K H p (Z_ 0)/\Q (.int ns.sum) H):=λc=>by
 intro FR s σ H xs us Q I r h;let⟨p,ns,rfl,hq,q⟩:=h;let⟨u,rfl,ru⟩:=vals1 r;cases ru
 rw[<-c.K]at hq;let⟨its,rv,pl,hz⟩:=I.list hq;let hi:IntsAre its ns:=intsAre_of rv;let⟨ys,hy⟩:=hi.allInts.items;let hl:=pl.isList;rw[hy]at hl;refine sum_intListG (I.ok.hd c.calm) hl λh' tk t' hk=>?_;let e:preSum (numAt ys) ys.size=ns.sum:=by let e1:=preSum_eq ys ys.size;rw[List.take_of_length_le (by simp)]at e1;rw[e1,<-nums_intItems,<-hy];have:=hi.numsOf;rw[show its.toArray.toList=its from rfl,this]
 rw[e];show⟨.int ns.sum,H,I.kept hk,⟨_,rfl⟩,q⟩
def Dj:Y9 0->y_ (x_ Int)
 |[]=>a_ []
 |.int i::r=>(Dj r).map (i::·)
 |_::_=>b_
theorem Jq{φ:x_ r_}{H:Hp}:∀{xs:Y9 0}{vs:x_ V}{ns:x_ Int},ZQ 0->Dj xs=a_ ns->vs=Z_ 0
 |[],[],_,_,e=>by cases e;rfl
 |x::xs,v::vs,ns,⟨h,r⟩,e=>by
  cases x with
  |int i=>
   cases h
   simp only[Dj,Wb]at e;let⟨m,e,rfl⟩:=e;rw[Jq r e];rfl
  |_=>cases e
 |[],_::_,_,h,_=>h.elim
 |_::_,[],_,h,_=>h.elim
theorem Ky(ns:x_ Int):Dj (Zb 0)=a_ ns:=by
 induction ns with
 |nil=>rfl
 |cons n ns ih=>simp[Dj,ih]
def Mr:Y9 0->PH->Rs PV:=λxs h=>match xs with
 |[x]=>match lY x h with
  |some ys=>match Dj ys with
   |some ns=>.ok (.int ns.sum) h
   |none=>.bad
  |none=>.bad
 |_=>.bad
theorem Um:vD C k X (.builtin "sum") Mr:=λc=>(Kx c).imp λvs H Q h=>by
 let⟨φ,h,ps,rh,rv,po⟩:=h;unfold Mr at po;split at po
 ·let⟨v,rfl,rx⟩:=rv.one;split at po
  ·rename_i ys e;split at po
   ·rename_i ns en;let⟨a,vs,rfl,sa,ra⟩:=kN rh rx e;rw[Jq ra en]at sa;show⟨a,ns,rfl,sa,P1 rfl⟩
   ·show po.elim
  ·show po.elim
 ·show po.elim
theorem Mt(e:h[n]?=a_ (.lst (Zb 0))):Mr [.ref n] h=.ok (.int ns.sum) h:=by
 let e1:lY (.ref n) h=a_ (Zb 0):=by unfold lY aZ;simp only[e]
 unfold Mr;simp only[e1,Ky]
open PySem
@[simp]theorem UW{lo:Zz 0}{hi:Zz 0}{z:Str}(c:z.length<=16777216):vSl (.str z) lo hi h=.ok (.str (W2 z lo hi)) h:=if_pos c
@[simp]theorem OX{lo:Zz 0}{hi:Zz 0}:vSl (.tup xs) lo hi h=.ok (.tup (jN xs lo hi)) h:=(rfl)
@[simp]theorem VF{lo:Zz 0}{hi:Zz 0}:vSl (.fl xs) lo hi h=.ok (.ref h.length) (h++[.lst (jN xs lo hi)]):=(rfl)
theorem E6{lo:Zz 0}{hi:Zz 0}(e:h[n]?=a_ (.lst xs)):vSl (.ref n) lo hi h=.ok (.ref h.length) (h++[.lst (jN xs lo hi)]):=by
 let e3:aZ h n=a_ xs:=by unfold aZ;rw[e]
 unfold vSl;simp only[e3]
@[simp]theorem Sd{x:PV}:xZ x .non h=.ok (.bl (!xY x)) h:=(rfl)
section
variable{tg:Mg}{g:PH->Bool}
theorem Jr{δ0:Ev}{Q:PV->PH->Prop}(I:Nat->PH->Prop):∀(xs:Y9 0)(k:Nat)(h:PH),I k h->
  (∀i x h,k<=i->xs[i-k]?=a_ x->I i h->g h=true/\∃δ1,tg x δ0=a_ δ1/\(tst δ1 h).W λb h'=>if b=true then(elt δ1 h').W λp ie=>∃ys,ie[n]?=a_ (.lst ys)/\ys.length<16777216/\I (i+1) (ie.set n (.lst (ys++[p]))) else I (i+1) h')->
  (∀h,I (k+xs.length) h->g h=true/\Q (.ref n) h)->(pF g tg tst elt δ0 n xs h).W Q
 |[],k,h,i0,_,fin=>by let⟨h1,h2⟩:=fin h i0;simp[pF,h1,h2]
 |x::xs,k,h,i0,step,fin=>by
  let⟨h1,δ1,h2,h3⟩:=step k x h (zd _) (by simp) i0;let go:∀h2,I (k+1) h2->(pF g tg tst elt δ0 n xs h2).W Q:=λh2 i2=>
   Jr I xs (k+1) h2 i2 (λi y h hk hy=>step i y h ⋯ (by
    have:i-k=(i-(k+1))+1:=⋯;rw[this,W7];show hy)) (λh hi=>fin h (by
    let e:k+(x::xs).length=k+1+xs.length:=by simp;omega
    rw[e];show hi))
  unfold pF;rw[if_pos h1,h2]
  change(Rs.bind (tst δ1 h) _).W Q
  rw[HU];refine HW h3 λb h' hb=>?_;cases b with
  |false=>exact go h' (ke hb)
  |true=>
   change(Rs.bind (elt δ1 h') _).W Q
   rw[HU];refine HW (show(elt δ1 h').W _ from by simpa using hb) λp ie hp=>?_
   let⟨ys,e,hz,hi⟩:=hp;let e':dA ie n=a_ ys:=by unfold dA;rw[e]
   simp[e',hz];show go _ hi
theorem nE{α:Type}{ys:x_ α}{emb:α->PV}(f:α->y_ PV)(e:mi δ h=.ok ⟨ys.map emb,g⟩ h1)(hg:∀h,Ext h1 h->g h=true)(hz:ys.length<=16777216)(step:∀y∈ys,∃δ1,tg (emb y) (gZ js δ)=a_ δ1/\∀h,Ext h1 h->match f y with
   |none=>tst δ1 h=.ok false h
   |some p=>tst δ1 h=.ok true h/\elt δ1 h=.ok p h):dQ js mi tg tst elt δ h=.ok (.ref h1.length) (h1++[.lst (ys.filterMap f)]):=by
 let w:(dQ js mi tg tst elt δ h).W λp h'=>p=.ref h1.length/\h'=h1++[.lst (ys.filterMap f)]:=by
  unfold dQ;rw[e,Rs.bind_ok];refine Jr (λi h'=>h'=h1++[.lst ((ys.take i).filterMap f)]) (ys.map emb) 0 _ (by simp) (λi x h' _ hx hi=>?_) (λh' hi=>?_)
  ·subst hi;let hx:(ys.map emb)[i]?=a_ x:=by simpa using hx
   rw[zt]at hx;let⟨y,hy,rfl⟩:=Wb.mp hx;let hil:=(yy.mp hy).1;let⟨δ1,ht,hs⟩:=step y (Wn hy);let hs:=hs (h1++[.lst ((ys.take i).filterMap f)]) (z_ _);let htk:ys.take (i+1)=ys.take i++[y]:=by rw[WQ,hy];rfl
   refine⟨hg _ (z_ _),δ1,ht,?_⟩;cases ef:f y with
   |none=>rw[ef]at hs;rw[hs];simp[htk,ef]
   |some p=>rw[ef]at hs;rw[hs.1];simp[hs.2];refine⟨?_,by simp[htk,ef]⟩;have:=List.length_filterMap_le f (ys.take i);rw[Xb]at this;omega
  ·subst hi;simp;show hg _ (z_ _)
 let⟨p,h',e,rfl,rfl⟩:=kG w;show e
theorem Mu(e:m δ h=.ok (.ref n) h1)(hn:h1[n]?=a_ (.lst xs)):dX m δ h=.ok ⟨xs,Bl n xs⟩ h1:=by
 unfold dX;let e3:aZ h1 n=a_ xs:=by unfold aZ;rw[hn]
 rw[e,Rs.bind_ok];unfold ofSeq;simp only[e3]
theorem Mv(hn:h1[n]?=a_ (.lst xs)):∀h,Ext h1 h->Bl n xs h=true:=λh hx=>by
 let e3:aZ h n=a_ xs:=by unfold aZ;rw[hx _ _ hn]
 unfold Bl;rw[e3];show PV.beqs_self xs
theorem Mw(e:m δ h=.ok (.tup xs) h1):dX m δ h=.ok ⟨xs,λ_=>true⟩ h1:=by unfold dX;rw[e];rfl
theorem kT{α:Type}{ys:x_ α}{emb:α->PV}(f:α->y_ PV)(e:m δ h=.ok (.ref n) h1)(hn:h1[n]?=a_ (.lst (ys.map emb)))(hz:ys.length<=16777216)(step:∀y∈ys,∃δ1,tg (emb y) (gZ js δ)=a_ δ1/\∀h,Ext h1 h->match f y with
   |none=>tst δ1 h=.ok false h
   |some p=>tst δ1 h=.ok true h/\elt δ1 h=.ok p h):dQ js (dX m) tg tst elt δ h=.ok (.ref h1.length) (h1++[.lst (ys.filterMap f)]):=
 nE f (Mu e hn) (Mv hn) hz step
theorem Kz{α:Type}{ys:x_ α}{emb:α->PV}(f:α->y_ PV)(e:m δ h=.ok (.tup (ys.map emb)) h1)(hz:ys.length<=16777216)(step:∀y∈ys,∃δ1,tg (emb y) (gZ js δ)=a_ δ1/\∀h,Ext h1 h->match f y with
   |none=>tst δ1 h=.ok false h
   |some p=>tst δ1 h=.ok true h/\elt δ1 h=.ok p h):dQ js (dX m) tg tst elt δ h=.ok (.ref h1.length) (h1++[.lst (ys.filterMap f)]):=
 nE f (Mw e) (λ_ _=>rfl) hz step
theorem FP(lo:Int):∀n,upTo lo n=(z0 n).map (λ(i:Nat)=>PV.int (lo+(i:Int)))
 |0=>rfl
 |n+1=>by
  rw[upTo,FP (lo+1) n,Yf,zg,Wp];congr 1
  ·simp
  ·apply WW;intro a _;simp only[YW];congr 1;omega
theorem Br{j:Int}(f:Nat->y_ PV)(e:ms δ h=.ok [.int j] h1)(hj:-4611686018427387904<=j/\j<16777216)(step:∀i:Nat,(i:Int)<j->∃δ1,tg (.int i) (gZ js δ)=a_ δ1/\∀h,Ext h1 h->match f i with
   |none=>tst δ1 h=.ok false h
   |some p=>tst δ1 h=.ok true h/\elt δ1 h=.ok p h):dQ js (qC ms) tg tst elt δ h=.ok (.ref h1.length) (h1++[.lst ((z0 j.toNat).filterMap f)]):=by
 refine nE (emb:=λi:Nat=>.int ((0:Int)+i)) (g:=λ_=>true) f ?_ (λ_ _=>rfl) (by simp;omega) (λi hi=>?_)
 ·unfold qC;rw[e];let je:-(2 ^ 62)<=j/\j<2 ^ 62:=⟨hj.1,⋯⟩;simp only[Rs.bind_ok,Ji,if_pos je];rw[FP]
 ·let ak:=List.mem_range.mp hi;rw[Int.zero_add];show step i ⋯
theorem filterMap_some{α β:Type}(f:α->β)(xs:x_ α):xs.filterMap (λx=>a_ (f x))=xs.map f:=by
 induction xs with
 |nil=>rfl
 |cons x xs ih=>simp[ih]
end
mutual
theorem Mx(I:N_ s)(hK:X.K=C.K):∀(n:Nat){p:PV}{v:V}{u:qe},p.ky n=true->p_ p v->ZF u->Z3 p u
 |_,.int i,v,u,_,r,ru=>by cases r;show ru
 |_,.str i,v,u,_,r,ru=>by cases r;show ru
 |n+1,.tup ps,v,u,hk,r,ru=>by
  let⟨a,vs,rfl,q,rs⟩:=r;cases ru
  rw[<-hK]at q;let⟨its,rv,p,_⟩:=I.tuple q;show⟨a,its,rfl,p,E7 I hK n (zk.mp hk) rs rv⟩
 |0,.tup _,_,_,hk,_,_=>by cases hk
 |n,.non,_,_,hk,_,_=>by cases n <;> cases hk
 |n,.bl _,_,_,hk,_,_=>by cases n <;> cases hk
 |n,.ref _,_,_,hk,_,_=>by cases n <;> cases hk
 |n,.ty _,_,_,hk,_,_=>by cases n <;> cases hk
 |n,.fl _,_,_,hk,_,_=>by cases n <;> cases hk
theorem E7(I:N_ s)(hK:X.K=C.K):∀(n:Nat){ps:Y9 0}{vs:x_ V}{us:ZE 0},(∀p∈ps,p.ky n=true)->A_ ps vs->aS vs us->HRs s.heap ps us
 |_,[],[],us,_,_,ru=>by cases ru;trivial
 |n,p::ps,v::vs,us,hk,r,ru=>by
  cases ru with
  |cons h t=>exact⟨Mx I hK n (hk p y8) r.1 h,E7 I hK n (λq hq=>hk q (y9 _ hq)) r.2 t⟩
 |_,[],_::_,_,_,r,_=>r.elim
 |_,_::_,[],_,_,r,_=>r.elim
end
abbrev FS:x_ (PV×r_×V)->x_ (PV×r_×qe)->Prop:=Paired λp q=>p.1=q.1/\p.2.1=q.2.1/\RelV p.2.2 q.2.2
def HD(C:MC)(φ:x_ r_)(H:Hp)(X:Cx)(s:q_)(a:r_)(kvs:x_ (PV×PV)):Prop:=
 ∃ks xs,Z5 kvs ks/\FS ks xs/\xs.length<=zf/\(a == WL)=false/\s.heap.DictOfH (zM X.prog X.w) a xs
def bX(h:PH)(n:Nat):y_ (x_ (PV×PV)):=match h[n]? with
 |some (.dD kvs)=>a_ kvs
 |some (.dK [])=>a_ []
 |_=>b_
def PV.isKt:PV->Bool
 |.tup xs=>(PV.tup xs).ky 6
 |_=>false
theorem Az(h:p.isKt=true):p.ky 6=true:=by cases p <;> first|exact h|cases h
theorem rR(h:p.isKt=true)(r:p_ p v):∃b,v=.ref b:=by cases p <;> first|(let⟨b,_,e,_⟩:=r;show⟨b,e⟩)|cases h
variable{kvs:x_ (PV×PV)}
theorem zP(I:N_ s)(hK:X.K=C.K)(hw:X.w=C.w)(rh:E_ h)(ha:φ[n]?=a_ a)(e:bX h n=a_ kvs):HD C φ H X s a kvs/\Mut (H a)/\zJ (H a):=by
 unfold bX at e;split at e
 ·rename_i kv hk;cases e
  let⟨ks,hH,r⟩:=Y0 hk;let hO:Zj H s.heap a (dDO C.w a ks):=I.hok a _ hH;let⟨⟨hz,hm,xs,rx,o,es,ep,h1,h2,h3,h4,h5⟩,_⟩:=hO;refine⟨⟨ks,xs,r,rx,by rw[<-Wt rx];show hz,hm,o,es,ep,h1,h2,h3,?_,?_,h5⟩,by rw[hH];show WZ,by rw[hH];show WZ⟩
  ·rw[h4,<-hw];rfl
  ·let all:∀{l:x_ (PV×PV)}{m:x_ (PV×r_×V)}{z:x_ (PV×r_×qe)},Z5 l m->FS m z->∀x∈z,(zM X.prog X.w).is s.heap x.1 x.2.1:=by
    intro l m z q;unfold RKd at q
    induction q generalizing z with
    |nil=>intro rz x hx;cases rz;cases hx
    |cons hq t ih=>
     intro rz x hx;cases rz with
     |cons hz' tz=>
      rcases zq.mp hx with e|hx
      ·subst e;refine⟨?_,?_⟩
       ·rw[<-hz'.1,<-hq.1];show hq.2.1
       ·rw[<-hz'.1,<-hq.1,<-hz'.2.1];show Mx I hK 6 hq.2.1 hq.2.2.1 rfl
      ·show ih tz x hx
   show all r rx
 ·rename_i hk;cases e
  let⟨ks,hH,r⟩:=Y0 hk;have:ks=[]:=by cases r;rfl
  subst this;let⟨z,hd,vs,rel,o,es,ep,h1,h2,h3,h4,h5,h6⟩:=CY I.hok hH;have:vs=[]:=by cases rel;rfl
  subst this;refine⟨⟨[],[],.nil,.nil,z8 _,hd,o,es,ep,h1,h2,h3,?_,(λx hx=>nomatch hx),List.nodup_nil⟩,by rw[hH];show WZ,by rw[hH];show WZ⟩;cases he:es.toList with
  |nil=>rfl
  |cons y ys=>rw[he]at h5;cases h5
 ·cases e
variable{ks:x_ (PV×r_×V)}
theorem HD.val{a:r_}{xs:x_ (PV×r_×qe)}(r:Z5 kvs ks)(rx:FS ks xs)(k:PV):match Zk k,(ZN k).map (·.2) with
  |some p,a_ u=>∃v,ZF u/\p_ p v
  |none,b_=>True
  |_,_=>False:=by
 unfold RKd at r
 induction r generalizing xs with
 |nil=>cases rx;trivial
 | @cons p q ps qs h t ih=>
  cases rx with
  | @cons q' x qs' xs' hx tx=>
   let⟨pk,pv⟩:=p;by_cases e:pk=k
   ·let e':x.1=k:=hx.1.symm.trans (h.1.symm.trans e);let b:atKey (x::xs') k=a_ x.2:=by simp[atKey,Xz,e']
    rw[b];unfold aP;rw[if_pos e];show⟨_,hx.2.2,h.2.2.2⟩
   ·let e':¬ x.1=k:=λz=>e (h.1.trans (hx.1.trans z));let b:atKey (x::xs') k=atKey xs' k:=by simp[atKey,Xz,e']
    rw[b];unfold aP;rw[Zs 0];show ih tx
def eK{κ:Type}[DecidableEq κ](kvs:x_ (κ×PV))(k:κ)(p:PV):x_ (κ×PV):=if(Zk k).isSome then kvs.map (λkv=>if kv.1=k then(kv.1,p) else kv) else kvs++[(k,p)]
theorem HD.replace{a:r_}{xs:x_ (PV×r_×qe)}(r:Z5 kvs ks)(rx:FS ks xs)(k:PV)(rp:p_ p v)(ru:ZF u):
  ∃cc,Z5 (kvs.map λkv=>if kv.1=k then(kv.1,p) else kv) cc/\FS cc (xs.map (putAt k u)):=by
 unfold RKd at r
 induction r generalizing xs with
 |nil=>cases rx;show⟨[],.nil,.nil⟩
 | @cons pp q ps qs h t ih=>
  cases rx with
  | @cons q' x qs' xs' hx tx=>
   let⟨cc,r1,r2⟩:=ih tx;by_cases e:pp.1=k
   ·refine⟨(q.1,q.2.1,v)::cc,.cons ?_ r1,.cons ?_ r2⟩
    ·simp only[if_pos e];show⟨h.1,h.2.1,h.2.2.1,rp⟩
    ·unfold putAt;rw[if_pos (hx.1.symm.trans (h.1.symm.trans e))];show⟨hx.1,hx.2.1,ru⟩
   ·refine⟨q::cc,.cons ?_ r1,.cons ?_ r2⟩
    ·simp only[Zs 0];show h
    ·unfold putAt;rw[if_neg λz=>e (h.1.trans (hx.1.trans z))];show hx
theorem HD.put{a b:r_}{xs:x_ (PV×r_×qe)}(r:Z5 kvs ks)(rx:FS ks xs){k:PV}(hk:k.ky 6=true)(rk:p_ k (.ref b))(rp:p_ p v)(ru:ZF u):
  ∃cc,Z5 (eK kvs k p) cc/\FS cc (storedH xs k b u):=by
 let hv:=HD.val (a:=b) r rx k;unfold eK storedH;cases e1:Zk k with
 |some p0=>
  rw[e1]at hv;cases e2:ZN k with
  |none=>rw[e2]at hv;show hv.elim
  |some z=>exact HD.replace (a:=b) r rx k rp ru
 |none=>
  rw[e1]at hv;cases e2:ZN k with
  |some z=>rw[e2]at hv;show hv.elim
  |none=>exact⟨ks++[(k,b,v)],Paired.snoc r ⟨rfl,hk,rk,rp⟩,Paired.snoc rx ⟨rfl,rfl,ru⟩⟩
theorem HD.isSome{xs:x_ (PV×r_×qe)}(r:Z5 kvs ks)(rx:FS ks xs)(k:PV):(ZN k).isSome=(Zk k).isSome:=by
 let hv:=HD.val (a:=0) r rx k;cases e1:Zk k with
 |some p0=>
  rw[e1]at hv;cases e2:ZN k with
  |none=>rw[e2]at hv;show hv.elim
  |some z=>rfl
 |none=>
  rw[e1]at hv;cases e2:ZN k with
  |some z=>rw[e2]at hv;show hv.elim
  |none=>rfl
theorem Bs(I:N_ s)(hK:X.K=C.K){b:r_}(hk:p.isKt=true)(r:p_ p (.ref b)):(zM X.prog X.w).is s.heap p b:=⟨Az hk,Mx I hK 6 (Az hk) r rfl⟩
theorem Cxt.room6{k:Nat}(c:Y4 X):(zM X.prog X.w).room X.A.in1:=by
 have:=c.hu64
 change X.A.units+1+6<cLine
 omega
def lR(x y:PV)(h:PH):y_ (y_ PV):=match y with
 |.ref n=>if x.isKt=true then(bX h n).map λkvs=>Zk x else b_
 |_=>b_
def Js(C:MC):V->V->Hp->(x_ r_->y_ PV->Prop)->Prop:=λx y H R=>∃φ h p n a kvs,E_ h/\p_ p x/\y=.ref a/\φ[n]?=a_ a/\bX h n=a_ kvs/\p.isKt=true/\R φ (Zk p)
theorem tJ{q:PV}{x:V}{o:y_ PV}{R:x_ r_->y_ PV->Prop}(rh:E_ h)(rx:p_ p x)(ry:p_ q y)(e:lR p q h=a_ o)(r:R φ o):Js C x y H R:=by
 unfold lR at e;cases q with
 |ref n=>
  let⟨a,rfl,ha⟩:=ry;dsimp only at e;split at e
  ·rename_i hk;cases e1:bX h n with
   |none=>rw[e1]at e;cases e
   |some kvs=>rw[e1]at e;cases e;show⟨φ,h,p,n,a,kvs,rh,rx,rfl,ha,e1,hk,r⟩
  ·cases e
 |_=>cases e
theorem OY{k:Nat}(c:Y4 X):Y5 (VX .In) (λx y H Q=>Js C x y H λ_ o=>Q (.bl o.isSome) H):=λFR s σ H x y v u Q I rx ry h=>by
 let⟨φ,h,p,n,a,kvs,rh,rp,rfl,ha,ht,hk,q⟩:=h;cases ry
 let⟨b,rfl⟩:=rR hk rp;cases rx
 let⟨⟨ks,xs,r,cv,hz,hm,dd⟩,_⟩:=ZR 0;refine wpAny_in_heap c.room6 (Bs I c.K hk rp) hm dd ?_;rw[HD.isSome r cv p];show⟨.bl _,H,Zy 0,rfl,q⟩
theorem HZ{k:Nat}(c:Y4 X):Y5 (VX .NotIn) (λx y H Q=>Js C x y H λ_ o=>Q (.bl (!o.isSome)) H):=λFR s σ H x y v u Q I rx ry h=>by
 let⟨φ,h,p,n,a,kvs,rh,rp,rfl,ha,ht,hk,q⟩:=h;cases ry
 let⟨b,rfl⟩:=rR hk rp;cases rx
 let⟨⟨ks,xs,r,cv,hz,hm,dd⟩,_⟩:=ZR 0;refine wpAny_notIn_heap c.room6 (Bs I c.K hk rp) hm dd ?_;rw[HD.isSome r cv p];show⟨.bl _,H,Zy 0,rfl,q⟩
def lU:PV->PV->PH->Rs PV:=λx y h=>match lR x y h with
 |some o=>.ok (.bl o.isSome) h
 |none=>vIn x y h
def jB:PV->PV->PH->Rs PV:=λx y h=>match lR x y h with
 |some o=>.ok (.bl (!o.isSome)) h
 |none=>Bi x y h
theorem Dk{k:Nat}:Y3 (VX .In) lU:=λc=>((Vr c).or (OY c)).imp λx y H Q h=>by
 let⟨φ,h,p,q,rh,rx,ry,po⟩:=h;unfold lU at po;cases e:lR p q h with
 |none=>rw[e]at po;show .inl ⟨φ,h,p,q,rh,rx,ry,po⟩
 |some o=>rw[e]at po;show .inr (tJ rh rx ry e (P1 rfl))
theorem FT{k:Nat}:Y3 (VX .NotIn) jB:=λc=>((OJ c).or (HZ c)).imp λx y H Q h=>by
 let⟨φ,h,p,q,rh,rx,ry,po⟩:=h;unfold jB at po;cases e:lR p q h with
 |none=>rw[e]at po;show .inl ⟨φ,h,p,q,rh,rx,ry,po⟩
 |some o=>rw[e]at po;show .inr (tJ rh rx ry e (P1 rfl))
theorem VG{k:Nat}(c:Y4 X):IxR X (λx y H Q=>Js C y x H λφ o=>∃p,o=a_ p/\∀v:V,p_ p v->Q v H):=by
 intro value slice FR s σ H x y v u Q I rx ry h hs;let⟨φ,h,p,n,a,kvs,rh,rp,rfl,ha,ht,hk,p',ep,q⟩:=h;cases rx
 let⟨b,rfl⟩:=rR hk rp;cases ry
 let⟨⟨ks,xs,r,cv,hz,hm,dd⟩,_⟩:=ZR 0;let hT:=dd.typeIs;let hv:=HD.val (a:=a) r cv p;rw[ep]at hv;cases e2:ZN p with
 |none=>rw[e2]at hv;show hv.elim
 |some z=>
  rw[e2]at hv;let⟨v',af,bo⟩:=hv;unfold subscriptTail;refine yx ?_;rw[getitemInPython_of_ne hT.not_modules];refine yx (wpAny_specialOf hT PySem.F.slot_dict_getitem.lookup ?_);let fin:wpAny (g_ X) X.A (subscripted slice false (.ref a) (.ref b)) (λr s₃=>wpAny (g_ X) X.A (letTemporaryGo value (.ref a) r >>= λ_=>pure r) (Y2 Q) X.xe s₃) X.xe s:=by rw[hs];show wpAny_operating (wpAny_getItem_heap c.room6 (Bs I c.K hk rp) dd e2 (yx (wpAny_letTemporaryGo (yz ⟨v',H,Zy 0,af,q v' bo⟩))))
  first
   |exact yz (yx fin)
   |exact yx (yz (yx fin))
   |exact yx fin
def vAt:PV->PV->PH->Rs PV:=λx y h=>match lR y x h with
 |some (a_ p)=>.ok p h
 |some b_=>.bad
 |none=>vIx x y h
theorem bQ{k:Nat}{a b:v_}(ha:C_ a ma)(hb:C_ b mb)(hs:J6 b:=by intro _ _;rfl):C_ (.Subscript a b pos) (F_ ma mb):=λc=>
 (Tu ((ixC c.hu C.K c.K).or (VG c)) (ha c) (hb c) hs).imp λσ H Q h=>by
  let⟨φ,δ,h,rh,re,p⟩:=Jc h;refine⟨φ,δ,h,rh,re,p.imp ?_⟩;rintro v H1 ⟨φ,δ,h,rh,re,p⟩;refine⟨φ,δ,h,rh,re,p.imp ?_⟩;rintro u H2 ⟨φ,h,p,q,rh,rx,ry,po⟩;unfold vAt at po;cases e:lR q p h with
  |none=>rw[e]at po;show .inl (U3 ⟨φ,h,p,q,rh,rx,ry,po⟩)
  |some o=>
   rw[e]at po;cases o with
   |none=>exact po.elim
   |some r=>exact .inr (tJ rh ry rx e ⟨r,rfl,λv' rv=>P1 rv⟩)
def yB(x y v:PV)(h:PH):y_ PH:=match x with
 |.ref n=>match A7 y,h[n]? with
  |some key,a_ (.dK kvs)=>if kvs.length<zf then a_ (ZK (.dK (eK kvs key v))) else b_
  |some _,_=>b_
  |none,_=>if y.isKt=true then(match bX h n with
   |some kvs=>if kvs.length<zf then a_ (ZK (.dD (eK kvs y v))) else b_
   |none=>b_) else b_
 |_=>b_
theorem I0{κ:Type}[DecidableEq κ]{kvs:x_ (κ×PV)}{ks:x_ (κ×V)}(r:ZG kvs ks)(a:κ):(Zk a).isSome=(nA ks a).isSome:=by
 have:=xX r a;cases e1:Zk a with
 |none=>
  cases e2:nA ks a with
  |none=>rfl
  |some v=>rw[e1,e2]at this;show this.elim
 |some p=>
  cases e2:nA ks a with
  |none=>rw[e1,e2]at this;show this.elim
  |some v=>rfl
theorem FU{κ:Type}[DecidableEq κ]{kvs:x_ (κ×PV)}{ks:x_ (κ×V)}(r:ZG kvs ks)(a:κ)(rp:p_ p v):ZG (eK kvs a p) (putK ks a v):=by
 unfold eK putK;rw[B1,I0 r a];split
 ·rename_i hx;clear hx;unfold RKv at r⊢
  induction r with
  |nil=>exact .nil
  | @cons p' q' ps qs h t ih=>
   refine .cons ?_ ih;by_cases e:p'.1=a
   ·let e':q'.1=a:=h.1.symm.trans e;simp only[if_pos e,if_pos e'];show⟨h.1,rp⟩
   ·let e':¬ q'.1=a:=λz=>e (h.1.trans z);simp only[Zs 0,if_neg e'];show h
 ·show Paired.snoc r ⟨rfl,rp⟩
variable{px py:PV}{xu yu:qe}
theorem Dl{k:Nat}{h':PH}{pv:PV}{x:V}(c:Y4 X)(rh:E_ h)(rx:p_ px x)(ry:p_ py y)(rv:p_ pv v)(e:yB px py pv h=a_ h'){Q:jn Unit}(I:N_ s)(iw:Zr xu)(bw:Z4 yu)(ib:ZF vu)(q:∀s' H',h_ H' s'->Zu H'->RH C φ H' h'->Q () s'):wpAny (g_ X) X.A (setItem xu yu vu) Q X.xe s:=by
 unfold yB at e;cases px with
 |ref n=>
  let⟨a,rfl,ha⟩:=rx;cases iw
  dsimp only at e;split at e
  ·rename_i key kvs ao hk;split at e
   ·rename_i hl;cases e
    let⟨ks,hH,rk⟩:=Y0 hk;let ey:y=kV key:=E1 ry ao;subst ey;let dg:ks.length<zf:=by rw[<-Wt rk];show hl
    refine K9 c.hu I (.k hH dg) bw ib λs' I'=>q s' _ I' (Kp.dK hH) ?_;refine rh.write ha (by rw[hH];show WZ) ⟨_,aX,?_⟩;show(FU rk key rv).mono zc (Kp.dK hH)
   ·cases e
  ·cases e
  ·split at e
   ·rename_i hk;split at e
    ·rename_i kvs ht;split at e
     ·rename_i hl;cases e
      let⟨b,rfl⟩:=rR hk ry;cases bw
      let⟨⟨ks,xs,r,cv,hz,hm,dd⟩,mu,nt⟩:=ZR 0;refine wpAny_setItem_heap (hsz:=hz) c.room6 (Bs I c.K hk ry) dd λh' dn hs=>?_;let⟨cc,r1,r2⟩:=HD.put (a:=a) r cv (Az hk) ry rv ib;let⟨o,es,ep,hq,h2,h3,h4,_,h5⟩:=dn;let cy:cc.length<=zf:=by
       let e1:=Wt r1;let e2:(eK kvs py pv).length<=kvs.length+1:=by
        unfold eK;split
        ·rw[za];omega
        ·simp
       omega
      refine q _ (R_ a (dDO C.w a cc)) (uT I mu hs ⟨o,hq⟩ ⟨⟨cy,hm,_,r2,o,es,ep,hq,h2,h3,?_,h5⟩,⟨o,hq⟩,?_⟩) (Kp.upd nt) ?_
      ·rw[h4,<-c.w];rfl
      ·rintro g1 g2 ⟨z1,z2,ws,z3,o',dw,dj,z4,z5⟩ keep;show⟨z1,z2,ws,z3,o',dw,dj,keep _ z4,z5⟩
      ·show rh.write ha nt ⟨cc,aX,RKd.mono zc (Kp.upd nt) r1⟩
     ·cases e
    ·cases e
   ·cases e
 |_=>cases e
def MtG(C:MC)(k:Nat)(X:Cx)(T:String)(ty:PV->PH->Bool)(id:String)(g:PV->Y9 0->PH->Rs PV):Prop:=Y4 X->MtR X id (rM C g)/\
 ∀FR s σ H φ h p x v,N_ s->E_ h->p_ p x->Zr v->ty p h=true->s.TypeIs v T/\∀a,v=.ref a->∃ob,s.heap.get? a=a_ ob/\ob.dict=b_
theorem OZ{k:Nat}{o:v_}{id:String}{g:PV->Y9 0->PH->Rs PV}(pa:PlainAttrs T)(slot:Slot T name id)(d5:typeOf (.builtin id)=pure (.type "method_descriptor"))(hm:MtG C k X T ty id g)(ho:C_ o mo)(ha:SA C k X (e::es) ms)(av:XF o name X.env (ZM 0)=ZM 0:=by rfl)(dr:((backTo ag (zw (e::es) X.env)).all (λx=>!x.1)&&(backToKw ag (keywordEach [] X.env)).all (λx=>x.1.isSome)
   && decide ((e::es).length+([]:x_ Keyword).length+(if([]:x_ Keyword).isEmpty then 0 else 1)<30))=true:=by rfl)(au:(apos.endLine == ag.line)=true:=by rfl)(hs:zw (e::es) X.env=(false,X_ 0)::U_ 0:=by rfl)(bj:(backTo ag (U_ 0)).any (·.1)=false:=by rfl):
  C_ (.Call (.Attribute o name apos) (e::es) [] ag) (mMt ty g mo ms):=λc FR s σ H Q I ⟨φ,δ,h,rh,re,p⟩=>by
 refine wpAny_Call_method_late av dr au rfl (thn (ho c FR s σ H _ I ⟨φ,δ,h,rh,re,post.bind p⟩) ?_);rintro v s1 ⟨x,H1,I1,r1,φ1,px,h1,p1,t1,ab,af,q1⟩;let⟨ht,q1⟩:=q1.ite;let⟨g1,g2⟩:=(hm c).2 FR s1 σ H1 φ1 h1 px x v I1 ab af r1 ht;refine⟨T,id,pa,slot,d5,g1,g2,?_⟩;let hA:=ha c ag FR s1 σ H1 _ I1 ⟨φ1,δ,h1,ab,S_ 0,postA.bind q1⟩;rw[hs]at hA⊢;refine Ye (show(false || (backTo ag (U_ 0)).any (·.1))=false by rw[bj];rfl) (Calls.evalArgs_plain (thn hA ?_));rintro us s2 ⟨vs,H2,I2,r2,φ2,ps,h2,p2,t2,aj,bo,q2⟩;show(hm c).1 FR s2 σ H2 x vs v us Q I2 r1 r2 ⟨φ2,h2,px,ps,aj,af.mono p2 t2,bo,q2⟩
theorem My{k:Nat}{o:v_}{id:String}{g:PV->Y9 0->PH->Rs PV}(pa:PlainAttrs T)(slot:Slot T name id)(d5:typeOf (.builtin id)=pure (.type "method_descriptor"))(hm:MtG C k X T ty id g)(ho:C_ o mo)(av:XF o name X.env (ZM 0)=ZM 0:=by rfl)(au:(apos.endLine == ag.line)=true:=by rfl):C_ (.Call (.Attribute o name apos) [] [] ag) (qE ty g mo):=λc FR s σ H Q I ⟨φ,δ,h,rh,re,p⟩=>by refine wpAny_Call_method0_late av au (thn (ho c FR s σ H _ I ⟨φ,δ,h,rh,re,post.bind p⟩) ?_);rintro v s1 ⟨x,H1,I1,r1,φ1,px,h1,p1,t1,ab,af,q1⟩;let⟨ht,q1⟩:=q1.ite;let⟨g1,g2⟩:=(hm c).2 FR s1 σ H1 φ1 h1 px x v I1 ab af r1 ht;show⟨T,id,pa,slot,d5,g1,g2,Ye rfl (PySem.evalArgs_none ((hm c).1 FR s1 σ H1 x [] v [] Q I1 r1 .nil ⟨φ1,h1,px,[],ab,af,trivial,q1⟩))⟩
def dR(x:PV)(h:PH):Bool:=match x with
 |.ref n=>match h[n]? with
  |some (.dK _)=>true
  |some (.dD _)=>true
  |_=>false
 |_=>false
theorem vJ{k:Nat}(c:Y4 X):∀FR s σ H φ h p x v,N_ s->E_ h->p_ p x->Zr v->dR p h=true->s.TypeIs v "dict" /\ ∀a,v=.ref a->∃ob,s.heap.get? a=a_ ob/\ob.dict=b_:=by
 intro FR s σ H φ h p x v I rh rv r e;unfold dR at e;cases p with
 |ref n=>
  let⟨a,rfl,ha⟩:=rv;cases r
  dsimp only at e;split at e
  ·rename_i kvs hk;let⟨ks,hH,rk⟩:=Y0 hk;let⟨z,hd,vs,rel,dd⟩:=CY I.hok hH;refine⟨dd.typeIs,λb eb=>?_⟩;cases eb
   let⟨ob,_,_,h1,h2,_⟩:=dd;show⟨ob,h1,h2.2.1⟩
  ·rename_i kvs hk;let ht:bX h n=a_ kvs:=by unfold bX;rw[hk]
   let⟨⟨ks,xs,r,cv,hz,hm,dd⟩,_⟩:=ZR 0;refine⟨dd.typeIs,λb eb=>?_⟩;cases eb
   let⟨ob,_,_,h1,h2,_⟩:=dd;show⟨ob,h1,h2.2.1⟩
  ·cases e
 |_=>cases e
def dG(h:PH)(x y:PV):y_ (y_ PV):=match lR y x h with
 |some o=>a_ o
 |none=>match x with
  |.ref n=>FJ h n y
  |_=>b_
def FV:PV->Y9 0->PH->Rs PV:=λx ps h=>match ps with
 |[y]=>match dG h x y with
  |some o=>.ok (o.getD .non) h
  |none=>.bad
 |[y,z]=>match dG h x y with
  |some o=>.ok (o.getD z) h
  |none=>.bad
 |_=>.bad
theorem Mz{x y:PV}{o:y_ PV}(e:lR x y h=a_ o):∃n kvs,y=.ref n/\x.isKt=true/\bX h n=a_ kvs/\o=Zk x:=by
 unfold lR at e;cases y with
 |ref n=>
  dsimp only at e;split at e
  ·rename_i hk;cases e1:bX h n with
   |none=>rw[e1]at e;cases e
   |some kvs=>rw[e1]at e;cases e;show⟨n,kvs,rfl,hk,e1,rfl⟩
  ·cases e
 |_=>cases e
theorem Se{k:Nat}(c:Y4 X):MtR X "dict.get" (rM C FV):=λFR s σ H x xs v us Q I rx rs h=>by
 let⟨φ,h,p,ps,rh,rp,fg,po⟩:=h
 -- what is found
 let key:∀{y:PV}{yv:V}{yu:qe}{o:y_ PV}{d:PV}{dv:V}{du:qe}{more:ZE 0},dG h p y=a_ o->p_ y yv->RelV yv yu->p_ d dv->RelV dv du->
   ((more=[]/\du=.none/\dv=.non)\/more=[du])->(∀z,p_ (o.getD d) z->Q z H)->wpAny (g_ X) X.A (call (.builtin "dict.get") (v::yu::more)) (Y2 Q) X.xe s:=by
  intro y yv yu o d dv du more e ry bw rd rdu hm q;unfold dG at e;cases e1:lR y p h with
  |some o'=>
   rw[e1]at e;cases e
   let⟨n,kvs,rfl,hk,ht,rfl⟩:=Mz e1;let⟨a,rfl,ha⟩:=rp;cases rx
   let⟨b,rfl⟩:=rR hk ry;cases bw
   let⟨⟨ks,xs,r,cv,hz,n6,dd⟩,_⟩:=ZR 0;let hv:=HD.val (a:=a) r cv y;let fin:Y2 Q (((ZN y).map (·.2)).getD du) { s with toks:=s.toks+(zM X.prog X.w).draws y}:=by
    cases e2:Zk y with
    |some p2=>
     rw[e2]at hv q;cases e3:ZN y with
     |none=>rw[e3]at hv;show hv.elim
     |some z=>rw[e3]at hv;let⟨v',af,bo⟩:=hv;show⟨v',H,Zy 0,af,q v' bo⟩
    |none=>
     rw[e2]at hv q;cases e3:ZN y with
     |some z=>rw[e3]at hv;show hv.elim
     |none=>exact⟨dv,H,Zy 0,rdu,q dv rd⟩
   rcases hm with⟨rfl,rfl,_⟩|rfl
   ·show XH WN dd.typeIs Xf (PySem.F.args_dict_get_2 _ _) (meetsH_dict_get (zM X.prog X.w) a b n6) ⟨c.room6,y,xs,Bs I c.K hk ry,dd,fin⟩
   ·show XH WN dd.typeIs Xf (PySem.F.args_dict_get_3 _ _ _) (meetsH_dict_get_default (zM X.prog X.w) a b n6 du) ⟨c.room6,y,xs,Bs I c.K hk ry,dd,fin⟩
  |none=>
   rw[e1]at e;cases p with
   |ref n=>
    let⟨a,rfl,ha⟩:=rp;cases rx
    dsimp only at e;let⟨o',g,is,val⟩:=tF rh ha ry e;let fin:∀w' s',N_ s'->RelV (o'.getD dv) w'->Y2 Q w' s':=λw' s' I' r'=>by
     refine⟨o'.getD dv,H,I',r',q _ ?_⟩;cases o with
     |some p2=>let⟨w2,rfl,u9⟩:=val p2 rfl;show u9
     |none=>
      cases o' with
      |none=>exact rd
      |some z=>cases is
    rcases hm with⟨rfl,rfl,rfl⟩|rfl
    ·show Ru c.hu I g bw fin
    ·show Rv c.hu I g bw rdu fin
   |_=>cases e
 unfold FV at po;split at po
 ·rename_i y;split at po
  ·rename_i o e;let⟨yv,rfl,ry⟩:=fg.one;let⟨yu,rfl,bw⟩:=vals1 rs;show key (d:=.non) (dv:=.non) (du:=.none) e ry bw rfl rfl (.inl ⟨rfl,rfl,rfl⟩) λz rz=>P1 rz
  ·show po.elim
 ·rename_i y z;split at po
  ·rename_i o e;let⟨yv,zv,rfl,ry,rz⟩:=fg.two;let⟨yu,zu,rfl,bw,jx⟩:=vals2 rs;show key e ry bw rz jx (.inr rfl) λz rz=>P1 rz
  ·show po.elim
 ·show po.elim
theorem QG{k:Nat}:MtG C k X "dict" dR "dict.get" FV:=λc=>⟨Se c,vJ c⟩
def KA(x:Zg 0):x_ (Zg 0)->x_ (Zg 0)
 |[]=>[x]
 |y::ys=>if cD y x=true then y::KA x ys else x::y::ys
def jP:x_ (Zg 0)->x_ (Zg 0)
 |[]=>[]
 |x::xs=>KA x (jP xs)
theorem yC(x:Zg 0):∀ys,(KA x ys).Perm (x::ys)
 |[]=>.refl _
 |y::ys=>by
  unfold KA;split
  ·show((yC x ys).cons y).trans (.swap x y ys)
  ·show .refl _
theorem gI:∀xs,(jP xs).Perm xs
 |[]=>.refl _
 |x::xs=>(yC x _).trans ((gI xs).cons x)
theorem zQ{S:x_ Bool}{x:Zg 0}(hx:shape x=S):∀{ys:x_ (Zg 0)},(∀y∈ys,shape y=S)->ys.Pairwise (λa b=>cD b a=false)->(KA x ys).Pairwise (λa b=>cD b a=false)
 |[],_,_=>X9 _ _
 |y::ys,hs,hp=>by
  let hy:=hs y y8;let dh:=λz hz=>hs z (y9 _ hz);rw[VY]at hp;unfold KA;split
  ·rename_i h;rw[VY];refine⟨λz hz=>?_,zQ hx dh hp.2⟩;rcases zq.mp ((yC x ys).mem_iff.mp hz) with rfl|hz
   ·show uZ h
   ·show hp.1 z hz
  ·rename_i h;let h':cD y x=false:=by simpa using h
   rw[VY];refine⟨λz hz=>?_,VY.mpr hp⟩;rcases zq.mp hz with rfl|hz
   ·show h'
   ·show rP (hx.trans hy.symm) (hy.trans (dh z hz).symm) h' (hp.1 z hz)
theorem sO{S:x_ Bool}:∀{xs:x_ (Zg 0)},(∀y∈xs,shape y=S)->(jP xs).Pairwise (λa b=>cD b a=false)
 |[],_=>.nil
 |x::xs,hs=>zQ (hs x y8) (λy hy=>hs y (y9 _ ((gI xs).mem_iff.mp hy))) (sO λy hy=>hs y (y9 _ hy))
variable{S:x_ Bool}
theorem tK{xs ys:x_ (Zg 0)}(hs:∀y∈xs,shape y=S)(hp:ys.Perm xs)(h:ys.Pairwise (λa b=>cD b a=false)):ys=jP xs:=by refine YO (le:=λa b=>cD b a=false) (λa b ha hb h1 h2=>?_) h (sO hs) (hp.trans (gI xs).symm);show B6 ((hs a (hp.mem_iff.mp ha)).trans (hs b ((gI xs).mem_iff.mp hb)).symm) h2 h1
def kP:Key->PV
 |.inl i=>.int i
 |.inr x=>.str x
theorem P0{x:PV}{a:Key}(h:A7 x=a_ a):x=kP a:=by cases x <;> first|(cases h;rfl)|cases h
@[simp]theorem Jt(a:Key):A7 (kP a)=a_ a:=by cases a <;> rfl
def pG:Y9 0->y_ (Zg 0)
 |[]=>a_ []
 |x::xs=>match A7 x,pG xs with
  |some a,a_ r=>a_ (a::r)
  |_,_=>b_
theorem vK:∀{xs:Y9 0}{ks:Zg 0},pG xs=a_ ks->xs=ks.map kP
 |[],_,h=>by cases h;rfl
 |x::xs,ks,h=>by
  unfold pG at h;cases e1:A7 x with
  |none=>rw[e1]at h;cases h
  |some a=>
   cases e2:pG xs with
   |none=>rw[e1,e2]at h;cases h
   |some r=>
    rw[e1,e2]at h;cases h
    rw[P0 e1,vK e2];rfl
@[simp]theorem MA:∀ks:Zg 0,pG (ks.map kP)=a_ ks
 |[]=>rfl
 |a::ks=>by simp[pG,MA ks]
def tP(ks:Zg 0):PV:=.tup (ks.map kP)
def pH:Y9 0->y_ (x_ (Zg 0))
 |[]=>a_ []
 |.tup xs::r=>match pG xs,pH r with
  |some a,a_ b=>a_ (a::b)
  |_,_=>b_
 |_::_=>b_
theorem Bt:∀{xs:Y9 0}{ks:x_ (Zg 0)},pH xs=a_ ks->xs=ks.map tP
 |[],_,h=>by cases h;rfl
 |x::xs,ks,h=>by
  cases x with
  |tup ys=>
   unfold pH at h;cases e1:pG ys with
   |none=>rw[e1]at h;cases h
   |some a=>
    cases e2:pH xs with
    |none=>rw[e1,e2]at h;cases h
    |some r=>
     rw[e1,e2]at h;cases h
     rw[vK e1,Bt e2];rfl
  |_=>cases h
@[simp]theorem Bu:∀ks:x_ (Zg 0),pH (ks.map tP)=a_ ks
 |[]=>rfl
 |a::ks=>by simp[pH,tP,Bu ks]
def pP(aa:x_ (Zg 0)):Bool:=match aa with
 |[]=>true
 |a::r=>(!a.isEmpty)&&r.all λx=>shape x == shape a
theorem tL(h:pP aa=true):∃b sh,∀ks∈aa,shape ks=b::sh:=by
 cases aa with
 |nil=>exact⟨true,[],λ_ h=>nomatch h⟩
 |cons a r=>
  unfold pP at h;rw[zp]at h;cases a with
  |nil=>cases h.1
  |cons z zs=>
   refine⟨fS z,shape zs,λks hk=>?_⟩;rcases zq.mp hk with rfl|hk
   ·rfl
   ·have:=zk.mp h.2 ks hk;show eq_of_beq this
section
variable{k:Nat}
theorem Uo{a:Key}:p_ (kP a) v↔Rep C.K H (kD a) v:=by cases a <;> exact Iff.rfl
theorem E8{φ:x_ r_}{H:Hp}:∀{ks:Zg 0}{vs:x_ V},A_ (ks.map kP) vs↔eO C.K H (ks.map kD) vs
 |[],[]=>Iff.rfl
 |[],_::_=>Iff.rfl
 |_::_,[]=>Iff.rfl
 |_::_,_::_=>and_congr Uo E8
theorem Up{ks:Zg 0}:p_ (tP ks) v↔Rep C.K H (tD ks) v:=by
 constructor
 ·rintro⟨a,vs,e,s,r⟩;show⟨a,vs,e,s,E8.mp r⟩
 ·rintro⟨a,vs,e,s,r⟩;show⟨a,vs,e,s,E8.mpr r⟩
theorem vL{φ:x_ r_}{H:Hp}:∀{aa:x_ (Zg 0)}{vs:x_ V},A_ (aa.map tP) vs↔eO C.K H (aa.map tD) vs
 |[],[]=>Iff.rfl
 |[],_::_=>Iff.rfl
 |_::_,[]=>Iff.rfl
 |_::_,_::_=>and_congr Up vL
def MB(xs:Y9 0):y_ (Y9 0):=match pH xs with
 |some aa=>if aa.length<64/\pP aa=true then a_ ((jP aa).map tP) else b_
 |none=>match pG xs with
  |some ks=>if ks.length<64/\ks.all (λx=>fS x == fS (.inr ""))=true then a_ ((jP (ks.map λx=>[x])).flatten.map kP) else b_
  |none=>b_
theorem RH.same(r:E_ h)(s:Fv H H1):RH C φ H1 h:=⟨r.len,r.nd,λn b ob h1 h2=>by let q:=r.at' n b ob h1 h2;let⟨u,hu⟩:=q.some;show q.stay zc (Kp.same s) ((s _ _ hu).trans hu.symm)⟩
theorem P3{a b:Str}:cD [.inr a] [.inr b]=decide (a.cps.toList<b.cps.toList):=by
 unfold cD;split
 ·rename_i e;cases e
  simp[cD,List.lt_irrefl]
 ·rfl
theorem zR:∀{r:Zw 0}{p:Str},risingS p r=true->((p::r).map λx=>[(YQ x:Key)]).Pairwise (λa b=>cD b a=false)
 |[],p,_=>X9 _ _
 |x::r,p,h=>by
  let h0:cD [.inr x] [.inr p]=false/\risingS x r=true:=by unfold risingS at h;rw[zp,ltCps_eq]at h;rw[P3];show⟨ke h.1,h.2⟩
  let ih:=zR h0.2;rw[zg,VY];refine⟨λz hz=>?_,ih⟩;let⟨y,hy,rfl⟩:=zm.mp hz;rcases zq.mp hy with rfl|hy
  ·show h0.1
  ·rw[zg,VY]at ih;show rP (a:=[.inr p]) (b:=[.inr x]) (c:=[.inr y]) rfl rfl h0.1 (ih.1 _ (zm.mpr ⟨y,hy,rfl⟩))
theorem P4{ks:Zg 0}(h:ks.all (λx=>fS x == fS (.inr ""))=true):∃ss:Zw 0,ks=ss.map YQ:=by
 induction ks with
 |nil=>exact⟨[],rfl⟩
 |cons a ks ih=>
  rw[Xq,zp]at h;let⟨ss,e⟩:=ih h.2;cases a with
  |inl i=>exact absurd h.1 (by simp[fS])
  |inr x=>exact⟨x::ss,by rw[e];rfl⟩
theorem E9{φ:x_ r_}{H:Hp}:∀{ss:Zw 0}{vs:x_ V},A_ (ss.map PV.str) vs↔vs=ss.map V.str
 |[],[]=>by simp[RVs]
 |[],_::_=>by simp[RVs]
 |_::_,[]=>by simp[RVs]
 |x::ss,v::vs=>by simp only[zg,RVs,List.cons.injEq];show and_congr Iff.rfl E9
theorem Dm:∀ss:Zw 0,(((ss.map λx=>[(YQ x:Key)]).flatten).map kP)=ss.map PV.str
 |[]=>rfl
 |x::ss=>by have:=Dm ss;simp only[zg,List.flatten_cons,List.singleton_append];rw[this];rfl
theorem KB{kvs:x_ (Key×PV)}{ks:x_ (Key×V)}(r:ZG kvs ks):∀{aa:x_ (Zg 0)},pH (kvs.map λkv=>PV.tup [kP kv.1,kv.2])=a_ aa->ks.map (λkv=>[kV kv.1,kv.2])=aa.map (λks=>ks.map kV):=by
 unfold RKv at r
 induction r with
 |nil=>intro aa h;cases h;rfl
 | @cons p q ps qs h t ih=>
  intro aa e;rw[zg]at e;unfold pH at e;cases e1:pG [kP p.1,p.2] with
  |none=>rw[e1]at e;cases e
  |some a=>
   cases e2:pH (ps.map λkv=>PV.tup [kP kv.1,kv.2]) with
   |none=>rw[e1,e2]at e;cases e
   |some b=>
    rw[e1,e2]at e;cases e
    rw[zg,zg,ih e2];congr 1;unfold pG at e1;rw[Jt]at e1;cases e3:pG [p.2] with
    |none=>rw[e3]at e1;cases e1
    |some c=>
     rw[e3]at e1;cases e1
     have:=vK e3
     match c,this with
     |[d],this=>
      let e4:p.2=kP d:=by simpa using this
      let rv:=h.2;rw[e4]at rv;let e5:q.2=kV d:=E1 rv (Jt d);rw[h.1,e5];rfl
     |[],this=>exact absurd this (by simp)
     |_::_::_,this=>exact absurd this (by simp)
def QH(h:PH)(n:Nat):y_ (Y9 0):=match h[n]? with
 |some (.vw 0 d)=>match h[d]? with
  |some (.dK kvs)=>a_ (kvs.map λkv=>.tup [kP kv.1,kv.2])
  |_=>b_
 |_=>b_
def oB:Y9 0->PH->Rs PV:=λxs h=>match xs with
 |[.ref n]=>match aZ h n with
  |some ys=>match MB ys with
   |some zs=>.ok (.ref h.length) (h++[.lst zs])
   |none=>.bad
  |none=>match QH h n with
   |some ys=>match pH ys with
    |some aa=>if aa.length<64/\pP aa=true then .ok (.ref h.length) (h++[.lst ((jP aa).map tP)]) else .bad
    |none=>.bad
   |none=>.bad
 |_=>.bad
theorem MD:vD C k X (.builtin "sorted") oB:=λc=>eL.imp (eL.or (DY c.calm C.K c.K) (by have:=wX (X:=X);rw[c.K]at this;show this)) λvs H Q h=>by
 let⟨φ,h,ps,rh,rv,po⟩:=h;unfold oB at po;split at po
 ·rename_i n;let⟨v,rfl,rx⟩:=rv.one;let⟨a,rfl,ha⟩:=rx;split at po
  ·rename_i ys e;let⟨a2,vs,ar,sa,ra⟩:=cZ rh e;rw[ha]at ar;cases ar;split at po
   ·rename_i zs ez;unfold MB at ez;split at ez
    ·rename_i aa ek;split at ez
     ·rename_i hc;cases ez
      let ey:=Bt ek;subst ey;let⟨b,sh,hsh⟩:=tL hc.2;refine .inl ⟨a,aa,sh,b,rfl,hc.1,hsh,.inl ⟨vs,sa,vL.mp ra,λl dm cg hl hp hs hr=>?_⟩⟩;rw[tK hsh hp hs]at hr;show po.lnew rh (vL.mpr hr) hl
     ·cases ez
    ·split at ez
     ·rename_i ks ek;split at ez
      ·rename_i hc;cases ez
       let⟨ss,rfl⟩:=P4 hc.2;let ey:=vK ek;rw[Wp]at ey;let xm:ys=ss.map PV.str:=ey;subst xm;let ev:=E9.mp ra;subst ev;refine .inr ⟨a,ss,rfl,sa,ke hc.1,λl df hl hp hs=>?_⟩;let e1:(df.map λx=>[(YQ x:Key)])=jP ((ss.map YQ).map λx=>[x]):=by
        rw[Wp];refine tK (S:=[false]) (λy hy=>?_) (hp.map _) ?_
        ·let⟨z,_,rfl⟩:=zm.mp hy;rfl
        ·cases df with
         |nil=>exact .nil
         |cons x r=>exact zR hs
       rw[<-e1]at po;refine po.lnew rh ?_ hl;let e2:(((df.map λx=>[(YQ x:Key)]).flatten).map kP)=df.map PV.str:=Dm df;rw[e2];show E9.mpr rfl
      ·cases ez
     ·cases ez
   ·show po.elim
  ·split at po
   ·rename_i ys ev;split at po
    ·rename_i aa ek;let⟨hc,po⟩:=po.ite;unfold QH at ev;split at ev
     ·rename_i d hv;split at ev
      ·rename_i kvs hk;cases ev
       let⟨b,hb,hH⟩:=Y0 hv;let⟨ks,hD,rk⟩:=rh.at' d b _ hb hk;let⟨bb,sh,hsh⟩:=tL hc.2;refine .inl ⟨a,aa,sh,bb,rfl,hc.1,hsh,.inr ⟨b,ks,hH,hD,?_,λH1 s1 l dm cg hl hp hs hr=>?_⟩⟩
       ·show KB rk ek
       ·rw[tK hsh hp hs]at hr;show(post.weak zc (Kp.same s1) po).lnew (rh.same s1) (vL.mpr hr) hl
      ·cases ev
     ·cases ev
    ·show po.elim
   ·show po.elim
 ·show po.elim
end
open PySem
@[simp]theorem Uq{x:PV}:lR x (.tup xs) h=b_:=(rfl)
@[simp]theorem T7{x:PV}{z:Str}:lR x (.str z) h=b_:=(rfl)
@[simp]theorem Ur{i:Int}{y:PV}:lR (.int i) y h=b_:=by cases y <;> rfl
@[simp]theorem Us{i:Str}{y:PV}:lR (.str i) y h=b_:=by cases y <;> rfl
@[simp]theorem UX{z:Str}{y:PV}:vAt (.str z) y h=vIx (.str z) y h:=by unfold vAt;simp
@[simp]theorem UY{x:PV}{i:Int}:vAt x (.int i) h=vIx x (.int i) h:=by unfold vAt;simp
@[simp]theorem Ut{x:PV}:lU x (.tup ys) h=vIn x (.tup ys) h:=by unfold lU;simp
@[simp]theorem QI{x:PV}:jB x (.tup ys) h=Bi x (.tup ys) h:=by unfold jB;simp
theorem Bv{kvs:x_ (Key×PV)}(e:h[n]?=a_ (.dK kvs)):dR (.ref n) h=true:=by unfold dR;simp[e]
variable{z:PV}
theorem Ju{kvs:x_ (Key×PV)}(e:h[n]?=a_ (.dK kvs)):FV (.ref n) [.str x,z] h=.ok ((Zk (.inr x)).getD z) h:=by simp[FV,dG,FJ,e,A7]
theorem Jv{kvs:x_ (Key×PV)}(e:h[n]?=a_ (.dK kvs))(c:kvs.length<16777216):yB (.ref n) (.str x) z h=a_ (ZK (.dK (eK kvs (.inr x) z))):=by simp[yB,e,A7,c]
theorem Ea(e1:h[n]?=a_ (.lst (aa.map tP)))(h1:aa.length<64)(h2:pP aa=true):
  oB [.ref n] h=.ok (.ref h.length) (h++[.lst ((jP aa).map tP)]):=by
 let e3:aZ h n=a_ (aa.map tP):=by simp[aZ,e1]
 simp only[oB,e3,MB,Bu];rw[if_pos ⟨h1,h2⟩]
def rS:PV->Y9 0->PH->Rs PV:=λx ps h=>match x,ps with
 |.ref n,[y,z]=>match A7 y with
  |some key=>match h[n]? with
   |some (.dK kvs)=>match Zk key with
    |some p=>.ok p h
    |none=>if kvs.length<zf then .ok z (ZK (.dK (eK kvs key z))) else .bad
   |_=>.bad
  |none=>if y.isKt=true then(match bX h n with
   |some kvs=>match Zk y with
    |some p=>.ok p h
    |none=>if kvs.length<zf then .ok z (ZK (.dD (eK kvs y z))) else .bad
   |none=>.bad) else .bad
 |_,_=>.bad
theorem ME{κ:Type}[DecidableEq κ](kvs:x_ (κ×PV))(a:κ)(p:PV):(eK kvs a p).length<=kvs.length+1:=by
 unfold eK;split
 ·rw[za];omega
 ·simp
theorem CB{k:Nat}(c:Y4 X):MtR X "dict.setdefault" (rM C rS):=λFR s σ H x xs v us Q I rx rs h=>by
 let⟨φ,h,p,ps,rh,rp,fg,po⟩:=h;unfold rS at po;split at po
 ·rename_i n y z;let⟨a,rfl,ha⟩:=rp;cases rx
  let⟨yv,zv,rfl,ry,rz⟩:=fg.two;let⟨yu,zu,rfl,bw,jx⟩:=vals2 rs;split at po
  ·rename_i key ao;split at po
   ·rename_i kvs hk;let⟨ks,hH,rk⟩:=Y0 hk;let ey:=E1 ry ao;subst ey;let⟨hz,hd,vs,rel,dd⟩:=CY I.hok hH;let wx:vs.length<=zf:=by rw[<-rel.length];show hz
    let lv:=xX rk key;let rv:=rel.val key;refine XH Yh dd.typeIs PySem.F.entry_dict_setdefault (PySem.F.args_dict_setdefault_3 _ _ _) (nY (cJ X.prog X.w) a hd (zF bw) zu) ⟨vs,dd,wx,λv e=>?_,λe h' dn hs=>?_⟩
    ·rw[e]at rv;cases e1:nA ks key with
     |none=>rw[e1]at rv;show rv.elim
     |some v1=>
      rw[e1]at rv lv;cases e2:Zk key with
      |none=>rw[e2]at lv;show lv.elim
      |some p1=>rw[e2]at lv po;show⟨v1,H,Zy 0,rv,P1 lv⟩
    ·rw[e]at rv;cases e1:nA ks key with
     |some v1=>rw[e1]at rv;show rv.elim
     |none=>
      rw[e1]at lv;cases e2:Zk key with
      |some p1=>rw[e2]at lv;show lv.elim
      |none=>
       rw[e2]at po;let⟨hl,po⟩:=po.ite;let dg:(putK ks key zv).length<=zf:=by have:=pW ks key zv;let e3:=Wt rk;omega
       let he:∃q,h'.get? a=a_ q:=let ⟨q,_,_,hq,_⟩:=dn;⟨q,hq⟩;refine⟨zv,R_ a (.dK (putK ks key zv)),uT I (by rw[hH];show WZ) hs he (LK dg hd (rel.put key jx) dn),jx,?_⟩;let kp:Zu (R_ a (.dK (putK ks key zv))):=Kp.dK hH;show po φ zv _ zc kp (rh.write ha (by rw[hH];show WZ) ⟨_,aX,(FU rk key rz).mono zc kp⟩) (rz.mono zc kp)
   ·show po.elim
  ·let⟨hk,po⟩:=po.ite;split at po
   ·rename_i kvs ht;let⟨b,rfl⟩:=rR hk ry;cases bw
    let⟨⟨ks,xs,r,cv,hz,hm,dd⟩,mu,nt⟩:=ZR 0;let hv:=HD.val (a:=a) r cv y;refine XH Yh dd.typeIs PySem.F.entry_dict_setdefault (PySem.F.args_dict_setdefault_3 _ _ _) (pM (zM X.prog X.w) a b hm zu) ⟨c.room6,y,xs,Bs I c.K hk ry,dd,hz,λp e=>?_,λe h' dn hs=>?_⟩
    ·rw[e]at hv;cases e2:Zk y with
     |none=>rw[e2]at hv;show hv.elim
     |some p1=>rw[e2]at hv po;let⟨v',af,bo⟩:=hv;show⟨v',H,Zy 0,af,P1 bo⟩
    ·rw[e]at hv;cases e2:Zk y with
     |some p1=>rw[e2]at hv;show hv.elim
     |none=>
      rw[e2]at po;let⟨hl,po⟩:=po.ite;let⟨cc,r1,r2⟩:=HD.put (a:=a) r cv (Az hk) ry rz jx;let⟨o,es,ep,hq,h2,h3,h4,_,h5⟩:=dn;let cy:cc.length<=zf:=by let e1:=Wt r1;let e3:=ME kvs y z;omega
      refine⟨zv,R_ a (dDO C.w a cc),uT I mu hs ⟨o,hq⟩ ⟨⟨cy,hm,_,r2,o,es,ep,hq,h2,h3,?_,h5⟩,⟨o,hq⟩,?_⟩,jx,?_⟩
      ·rw[h4,<-c.w];rfl
      ·rintro g1 g2 ⟨z1,z2,ws,z3,o',dw,dj,z4,z5⟩ keep;show⟨z1,z2,ws,z3,o',dw,dj,keep _ z4,z5⟩
      ·show po φ zv _ zc (Kp.upd nt) (rh.write ha nt ⟨cc,aX,RKd.mono zc (Kp.upd nt) r1⟩) (rz.mono zc (Kp.upd nt))
   ·show po.elim
 ·show po.elim
theorem Eb{k:Nat}:MtG C k X "dict" dR "dict.setdefault" rS:=λc=>⟨CB c,vJ c⟩
def oC(h:PH)(d:Nat):y_ (Y9 0):=match h[d]? with
 |some (.dK kvs)=>a_ (kvs.map (·.2))
 |some (.dD kvs)=>a_ (kvs.map (·.2))
 |_=>b_
theorem Bw{K:Type}[DecidableEq K]{knd:KeyKind prog w K}{es:x_ Yk}{kvs:x_ (K×qe)}(h:Pairs knd es kvs):es.map (·.val)=kvs.map (·.2):=by
 apply Xt;intro i;rw[zt,zt];let hl:=h.length;by_cases hi:i<es.length
 ·let e1:es[i]?=a_ es[i]:=by simp[hi]
  let ak:i<kvs.length:=⋯;let e2:kvs[i]?=a_ (kvs[i].1,kvs[i].2):=by simp[ak]
  rw[e1,e2];show congrArg a_ (h.get? e1 e2).2
 ·rw[List.getElem?_eq_none ⋯,List.getElem?_eq_none ⋯];rfl
theorem FW{k:Nat}{d:Nat}{b:r_}(c:Y4 X)(I:N_ s)(rh:E_ h)(hb:φ[d]?=a_ b)(e:oC h d=a_ xs):
  s.TypeIs (.ref b) "dict" /\ (b == WL)=false/\xs.length<=zf/\∃oc es ep,Y1 0=a_ oc/\oc.data=.dict es ep/\∃ws,A_ xs ws/\aS ws (es.toList.map (·.val)):=by
 unfold oC at e;split at e
 ·rename_i kvs hk;cases e
  let⟨ks,hH,rk⟩:=rh.at' d b _ hb hk;let⟨z,hd,vs,rel,dd⟩:=CY I.hok hH;refine⟨dd.typeIs,hd,by rw[za,Wt rk];show z,?_⟩;let⟨oc,es,ep,g1,g2,g3,g4,g5,g6⟩:=dd;refine⟨oc,es,ep,g1,g3,ks.map (·.2),?_,?_⟩
  ·unfold RKv at rk;clear hk hH rel z
   induction rk with
   |nil=>trivial
   |cons q t ih=>exact⟨q.2,ih⟩
  ·rw[Bw g5];clear hk hH g4 g5 g6 z;unfold KV at rel;clear rk
   induction rel with
   |nil=>exact .nil
   |cons q t ih=>exact .cons q.2 ih
 ·rename_i kvs hk;cases e
  let ht:bX h d=a_ kvs:=by unfold bX;rw[hk]
  let⟨⟨ks,ys,r,cv,hz,hm,dd⟩,_⟩:=zP I c.K c.w rh hb ht;let hlen:kvs.length=ys.length:=(Wt r).trans (Wt cv);refine⟨dd.typeIs,hm,by rw[za,hlen];show hz,?_⟩;let⟨oc,es,ep,g1,g2,g3,g4,g5,g6⟩:=dd;refine⟨oc,es,ep,g1,g3,ks.map (·.2.2),?_,?_⟩
  ·unfold RKd at r;clear hk ht cv hlen
   induction r with
   |nil=>trivial
   |cons q t ih=>exact⟨q.2.2.2,ih⟩
  ·rw[g4,Wp];clear hk ht r hlen hz g4 g5 g6
   induction cv with
   |nil=>exact .nil
   |cons q t ih=>exact .cons q.2.2 ih
 ·cases e
def FX:PV->Y9 0->PH->Rs PV:=λx ps h=>match x,ps with
 |.ref n,[]=>match oC h n with
  |some _=>.ok (.ref h.length) (h++[.vw 1 n])
  |none=>.bad
 |_,_=>.bad
theorem m_values{k:Nat}:MtG C k X "dict" dR "dict.values" FX:=λc=>⟨λFR s σ H x xs v us Q I rx rs h=>by
 let⟨φ,h,p,ps,rh,rp,fg,po⟩:=h;unfold FX at po;split at po
 ·rename_i n;split at po
  ·rename_i ys ey;let⟨a,rfl,ha⟩:=rp;have:xs=[]:=by cases xs <;> first|rfl|exact fg.elim
   subst this;cases rx
   cases rs
   let⟨hT,hm,_⟩:=FW c I rh ha ey;refine XH PySem.F.slot_dict_values hT PySem.F.entry_dict_values (PySem.F.args_dict_values_1 _) (DZ a hm) ⟨hT,?_⟩;let fr:H (e_ s)=b_:=I.fresh;refine⟨.ref (e_ s),_,I.laid (t':=s.toks) (o:=M4 1 (e_ s) a) (λb u e=>y6 _ e) (zd _) ?_,rfl,?_⟩
   ·show⟨⟨_,ZL 0,rfl,rfl⟩,⟨_,ZL 0⟩,λh1 h2 ⟨o,e,p⟩ k=>⟨o,k o e,p⟩⟩
   ·show po (φ++[(e_ s)]) (.ref _) _ (Wx _ _) (Kp.new fr) (rh.new fr ⟨a,jA (Wx _ _) ha,aX⟩) ⟨_,rfl,by rw[<-rh.len];simp⟩
  ·show po.elim
 ·show po.elim,vJ c⟩
def Bx(h:PH)(n:Nat):y_ (Y9 0):=match h[n]? with
 |some (.vw 1 d)=>oC h d
 |_=>b_
variable{acc:Y6 0}
theorem MF{es:Array Yk}(h:ItemsOf (λi v=>∃e,es[i]?=a_ e/\v=e.val) acc es.size):acc.toList=es.toList.map (·.val):=by
 apply Xt;intro i;rw[zt,Array.getElem?_toList,Array.getElem?_toList];by_cases hi:i<acc.size
 ·let e1:acc[i]?=a_ acc[i]:=by simp[hi]
  let⟨e,h1,h2⟩:=h.2 i _ e1;rw[e1,h1,h2];rfl
 ·let ak:¬ i<es.size:=by rw[<-h.1];show hi
  rw[XA ⋯,XA ⋯];rfl
theorem Jw(e:h[n]?=a_ (.dK [])):bX h n=a_ []:=by simp[bX,e]
theorem rT(e:h[n]?=a_ (.dD kvs)):bX h n=a_ kvs:=by simp[bX,e]
open PySem.SeqAt PySem.W
def By(l:x_ Nat):x_ Int:=l.map (λ(c:Nat)=>(c:Int)+2)++[1]
mutual
def enc:PV->x_ Int
 |.int i=>[i]
 |.str x=>By x.cps.toList
 |.tup xs=>vM xs
 |_=>[]
def vM:Y9 0->x_ Int
 |[]=>[0]
 |x::xs=>1::(enc x++vM xs)
end
theorem rU(a:Nat)(l:x_ Nat):By (a::l)=((a:Int)+2)::By l:=rfl
theorem Jx:∀(a b:x_ Nat)(s t:x_ Int),a≠b->((By a++s<By b++t)↔a<b)
 |[],[],_,_,h=>(h rfl).elim
 |[],b::bs,s,t,_=>by
  rw[rU]
  change(1::s<((b:Int)+2)::(By bs++t))↔_
  rw[Wy];constructor
  ·intro _;show List.nil_lt_cons _ _
  ·intro _;left;omega
 |a::as,[],s,t,_=>by
  rw[rU]
  change(((a:Int)+2)::(By as++s)<1::t)↔_
  rw[Wy];constructor
  ·rintro(h|⟨h,_⟩) <;> omega
  ·intro h;show(List.not_lt_nil _ h).elim
 |a::as,b::bs,s,t,h=>by
  rw[rU,rU]
  change(((a:Int)+2)::(By as++s)<((b:Int)+2)::(By bs++t))↔_
  rw[Wy,Wy];by_cases e:a=b
  ·subst e;let h':as≠bs:=λz=>h (by rw[z]);let ih:=Jx as bs s t h';constructor
   ·rintro(h1|⟨_,h1⟩)
    ·omega
    ·show .inr ⟨rfl,ih.mp h1⟩
   ·rintro(h1|⟨_,h1⟩)
    ·omega
    ·show .inr ⟨rfl,ih.mpr h1⟩
  ·constructor
   ·rintro(h1|⟨h1,_⟩) <;> (left;omega)
   ·rintro(h1|⟨h1,_⟩)
    ·left;omega
    ·show(e h1).elim
theorem Ia:∀(n:Nat)(x y:PV)(c:Bool)(s t:x_ Int),x≠y->ltP n x y=a_ c->((enc x++s<enc y++t)↔c=true):=by
 intro n;let one:∀(a b:Int)(c:Bool)(s t:x_ Int),PV.int a≠.int b->a_ (decide (a<b))=a_ c->(([a]++s < [b]++t)↔c=true):=λa b c s t h e=>by
  cases e
  let h':a≠b:=λz=>h (by rw[z])
  change(a::s<b::t)↔_
  rw[Wy,decide_eq_true_eq];constructor
  ·rintro(h1|⟨h1,_⟩)
   ·show h1
   ·show(h' h1).elim
  ·intro h1;show .inl h1
 let two:∀(a b:Str)(c:Bool)(s t:x_ Int),PV.str a≠.str b->a_ (decide (a.cps.toList<b.cps.toList))=a_ c->((By a.cps.toList++s<By b.cps.toList++t)↔c=true):=λa b c s t h e=>by
  cases e
  rw[Jx _ _ s t (λz=>h (by rw[Ja z])),decide_eq_true_eq]
 induction n with
 |zero=>intro x y c s t h e;cases x <;> cases y <;> first|exact one _ _ c s t h e|exact two _ _ c s t h e|(simp[ltP]at e)
 |succ n ih=>
  let lists:∀(xs ys:Y9 0)(c:Bool)(s t:x_ Int),xs≠ys->ltL (ltP n) xs ys=a_ c->((vM xs++s<vM ys++t)↔c=true):=by
   intro xs
   induction xs with
   |nil=>
    intro ys c s t h e;cases ys with
    |nil=>exact(h rfl).elim
    |cons y ys=>
     cases e
     change(0::s<1::((enc y++vM ys)++t))↔_
     rw[Wy];constructor
     ·intro _;rfl
     ·intro _;left;omega
   |cons x xs ihx=>
    intro ys c s t h e;cases ys with
    |nil=>
     cases e
     change(1::((enc x++vM xs)++s)<0::t)↔_
     rw[Wy];constructor
     ·rintro(h1|⟨h1,_⟩) <;> omega
     ·intro h1;cases h1
    |cons y ys=>
     change(1::((enc x++vM xs)++s)<1::((enc y++vM ys)++t))↔_
     let e':(if x=y then ltL (ltP n) xs ys else ltP n x y)=a_ c:=e;rw[Wy,Yt,Yt];let key:(enc x++(vM xs++s)<enc y++(vM ys++t))↔c=true:=by
      by_cases xy:x=y
      ·rw[if_pos xy]at e';subst xy;have:=ihx ys c s t (λz=>h (by rw[z])) e';rw[<-this];let cut:∀l:x_ Int,(l++(vM xs++s)<l++(vM ys++t))↔(vM xs++s<vM ys++t):=λl=>by
        induction l with
        |nil=>exact Iff.rfl
        |cons a l ih=>
         change(a::(l++_)<a::(l++_))↔_
         rw[Wy,ih];constructor
         ·rintro(h1|⟨_,h1⟩)
          ·omega
          ·show h1
         ·intro h1;show .inr ⟨rfl,h1⟩
       show cut _
      ·rw[if_neg xy]at e';show ih x y c _ _ xy e'
     rw[key];constructor
     ·rintro(h1|⟨_,h1⟩)
      ·omega
      ·show h1
     ·intro h1;show .inr ⟨rfl,h1⟩
  intro x y c s t h e;cases x <;> cases y <;> first|exact one _ _ c s t h e|exact two _ _ c s t h e|(simp[ltP]at e;done)|exact lists _ _ c s t (λz=>h (by rw[z])) e
def ltN(x y:PV):Bool:=decide (enc x<enc y)
theorem FY{f:PV->PV->y_ Bool}:∀xs:Y9 0,ltL f xs xs=a_ false
 |[]=>rfl
 |x::xs=>by
  change(if x=x then ltL f xs xs else f x x)=a_ false
  rw[Zc 0];show FY xs
theorem MG{x:PV}{c:Bool}(h:ltP n x x=a_ c):c=false:=by
 let st:∀{z:Str}{c:Bool},a_ (decide (z.cps.toList<z.cps.toList))=a_ c->c=false:=λ{z c} e=>by
  cases e
  show decide_eq_false (List.lt_irrefl _)
 let it:∀{z:Int}{c:Bool},a_ (decide (z<z))=a_ c->c=false:=λ{z c} e=>by
  cases e
  show decide_eq_false (Int.lt_irrefl _)
 cases n with
 |zero=>
  cases x with
  |int i=>exact it h
  |str i=>exact st h
  |_=>simp[ltP]at h
 |succ n=>
  cases x with
  |tup xs=>
   let h':ltL (ltP n) xs xs=a_ c:=h;rw[FY]at h';cases h'
   rfl
  |int i=>exact it h
  |str i=>exact st h
  |_=>simp[ltP]at h
theorem P5(x:PV):ltN x x=false:=decide_eq_false (List.lt_irrefl _)
theorem MH{x y:PV}{c:Bool}(h:ltP n x y=a_ c):ltN x y=c:=by
 by_cases e:x=y
 ·subst e;rw[MG h];show P5 x
 ·have:=Ia n x y c [] [] e h;rw[Xk,Xk]at this;unfold ltN;cases c with
  |true=>exact decide_eq_true (this.mpr rfl)
  |false=>exact decide_eq_false λz=>by cases this.mp z
theorem P6{x y:PV}{c:Bool}(h:ltP n x y=a_ c)(e:enc x=enc y):x=y:=by
 by_cases xy:x=y
 ·show xy
 ·let h1:=Ia n x y c [0] [1] xy h;let h2:=Ia n x y c [1] [0] xy h;rw[e]at h1 h2;let cut:∀(l s t:x_ Int),(l++s<l++t)↔(s<t):=λl s t=>by
   induction l with
   |nil=>exact Iff.rfl
   |cons a l ih=>
    change(a::(l++_)<a::(l++_))↔_
    rw[Wy,ih];constructor
    ·rintro(h1|⟨_,h1⟩)
     ·omega
     ·show h1
    ·intro h1;show .inr ⟨rfl,h1⟩
  rw[cut]at h1 h2;let t1:([0]:x_ Int) < [1]:=by decide
  let t2:¬ ([1]:x_ Int) < [0]:=by decide
  show(t2 (h2.mpr (h1.mp t1))).elim
theorem MI{a b c:PV}(h1:ltN b a=false)(h2:ltN c b=false):ltN c a=false:=decide_eq_false (X8.mpr (List.le_trans (X8.mp (of_decide_eq_false h1)) (X8.mp (of_decide_eq_false h2))))
theorem Ib{a b:PV}(h:ltN a b=true):ltN b a=false:=decide_eq_false (List.lt_asymm (of_decide_eq_true h))
theorem Sf{a b:PV}(h1:ltN a b=false)(h2:ltN b a=false):enc a=enc b:=List.le_antisymm (X8.mp (of_decide_eq_false h2)) (X8.mp (of_decide_eq_false h1))
section
variable{α:Type}(key:α->PV)
def FZ(x:α):x_ α->x_ α
 |[]=>[x]
 |y::ys=>if ltN (key y) (key x) then y::FZ x ys else x::y::ys
def kC:x_ α->x_ α
 |[]=>[]
 |x::xs=>FZ key x (kC xs)
theorem yD(x:α):∀ys,(FZ key x ys).Perm (x::ys)
 |[]=>.refl _
 |y::ys=>by
  unfold FZ;split
  ·show((yD x ys).cons y).trans (.swap x y ys)
  ·show .refl _
theorem tM:∀xs,(kC key xs).Perm xs
 |[]=>.refl _
 |x::xs=>(yD key x _).trans ((tM xs).cons x)
theorem zS(x:α):∀{ys:x_ α},ys.Pairwise (λa b=>ltN (key b) (key a)=false)->(FZ key x ys).Pairwise (λa b=>ltN (key b) (key a)=false)
 |[],_=>X9 _ _
 |y::ys,h=>by
  unfold FZ;rw[VY]at h;split
  ·rename_i ai;rw[VY];refine⟨λz hz=>?_,zS x h.2⟩;rcases zq.mp ((yD key x ys).mem_iff.mp hz) with rfl|hz
   ·show Ib ai
   ·show h.1 z hz
  ·rename_i ai;let k9:ltN (key y) (key x)=false:=by simpa using ai
   rw[VY];refine⟨λz hz=>?_,VY.mpr h⟩;rcases zq.mp hz with rfl|hz
   ·show k9
   ·show MI k9 (h.1 z hz)
theorem vN:∀xs:x_ α,(kC key xs).Pairwise (λa b=>ltN (key b) (key a)=false)
 |[]=>.nil
 |x::xs=>zS key x (vN xs)
theorem KC{xs ys:x_ α}(inj:∀a∈xs,∀b∈xs,enc (key a)=enc (key b)->a=b)(hp:ys.Perm xs)(h:ys.Pairwise (λa b=>ltN (key b) (key a)=false)):ys=kC key xs:=by refine YO (le:=λa b=>ltN (key b) (key a)=false) (λa b ha hb h1 h2=>?_) h (vN key xs) (hp.trans (tM key xs).symm);show inj a (hp.mem_iff.mp ha) b ((tM key xs).mem_iff.mp hb) (Sf h2 h1)
end
theorem Ic:∀{xs:Y9 0}{ds:x_ D},PV.ds xs=a_ ds->xs.length=ds.length
 |[],ds,h=>by cases h;rfl
 |x::xs,ds,h=>by let⟨d,r,_,h2,rfl⟩:=eM h;simp[Ic h2]
theorem MJ:∀{xs:Y9 0}{ds:x_ D}{j:Nat}{d:D},PV.ds xs=a_ ds->ds[j]?=a_ d->∃x,xs[j]?=a_ x/\x.d=a_ d
 |[],ds,j,d,h,e=>by cases h;simp at e
 |x::xs,ds,j,d,h,e=>by
  let⟨d',r,h1,h2,rfl⟩:=eM h;cases j with
  |zero=>
   have:d'=d:=by simpa using e
   show⟨x,rfl,by rw[h1,this]⟩
  |succ j=>
   let⟨y,a,b⟩:=MJ (j:=j) h2 (ke e);show⟨y,ke a,b⟩
theorem qG:∀(n:Nat)(p:PV),p.ky n=true->p.pl n=true:=by
 intro n
 induction n with
 |zero=>intro p h;cases p <;> first|rfl|cases h
 |succ n ih=>
  intro p h;cases p with
  |tup xs=>
   change xs.all (PV.pl n)=true
   rw[zk];show λy hy=>ih y (zk.mp (show xs.all (PV.ky n)=true from h) y hy)
  |_=>first|rfl|cases h
theorem Sg:∀(n:Nat){A:td}{s:q_}{p q:PV}{v u:qe}{b:Bool},p.ky n=true->q.ky n=true->A.units+n<cLine->Z3 p v->Z3 q u->ltP n p q=a_ b->Mq A s v u b:=by
 intro n;let one:∀{A:td}{s:q_}{i j:Int}{v u:qe}{b:Bool},Z3 (.int i) v->Z3 (.int j) u->a_ (decide (i<j))=a_ b->Mq A s v u b:=λ{A s i j v u b} r r' e=>by
  let⟨t,rfl⟩:=r;let⟨t',rfl⟩:=r';cases e
  show λprog w E Q q=>(PyProof.Rows.lt_int q:B_ (VX .Lt _ _) Q E s)
 let two:∀{A:td}{s:q_}{i j:Str}{v u:qe}{b:Bool},Z3 (.str i) v->Z3 (.str j) u->a_ (decide (i.cps.toList<j.cps.toList))=a_ b->Mq A s v u b:=λ{A s i j v u b} r r' e=>by
  let⟨t,rfl⟩:=r;let⟨t',rfl⟩:=r';cases e
  show λprog w E Q q=>(PyProof.Rows.lt_str q:B_ (VX .Lt _ _) Q E s)
 induction n with
 |zero=>
  intro A s p q v u b hp hq hu r r' e;cases p with
  |int i=>
   cases q with
   |int j=>exact one r r' e
   |_=>simp[ltP]at e
  |str i=>
   cases q with
   |str j=>exact two r r' e
   |_=>simp[ltP]at e
  |_=>cases hp
 |succ n ih=>
  intro A s p q v u b hp hq hu r r' e;cases p with
  |int i=>
   cases q with
   |int j=>exact one r r' e
   |_=>simp[ltP]at e
  |str i=>
   cases q with
   |str j=>exact two r r' e
   |_=>simp[ltP]at e
  |tup ps=>
   cases q with
   |tup qs=>
    let⟨a,its,rfl,p1,rs⟩:=r;let⟨a',its',rfl,p2,cw⟩:=r';let kp:∀z∈ps,z.ky n=true:=zk.mp hp;let kq:∀z∈qs,z.ky n=true:=zk.mp hq;let⟨d,hd,_⟩:=yA (n+1) _ (qG _ _ hp);let⟨d',bq,_⟩:=yA (n+1) _ (qG _ _ hq);let ai:=QF (n+1) _ _ d d' (qG _ _ hp) (qG _ _ hq) hd bq;rw[e]at ai;let⟨ds,g1,rfl⟩:=cM hd;let⟨es,g2,rfl⟩:=cM bq;let hb':sZ ds es=a_ b:=by simpa[ltD] using ai
    let⟨⟨cls,dd,data,sl⟩,ho,hc,m,gg⟩:=id p1;let⟨⟨ip,ee,data2,e8⟩,c3,bu,m2,hd2⟩:=id p2;simp only at hc gg bu hd2;subst hc gg bu hd2;intro prog w E Q fi;refine richCompare_meets_room (op:=.Lt) ⟨_,ho,rfl⟩ ⟨_,c3,rfl⟩ PySem.F.slot_tuple_lt PySem.F.entry_tuple_lt (PySem.F.args_tuple_lt_2 _ _) (vI a a' its.toArray its'.toArray m m2 dd ee sl e8 ds es b hb')
     ⟨ho,c3,⟨?_,?_,?_⟩,show Value.bool b≠Value.notImplemented/\Q (.bool b) s from⟨(λx=>nomatch x),fi⟩⟩ ⋯
    ·let l1:=rs.length;let l2:=Ic g1
     change its.length=ds.length
     omega
    ·let l1:=cw.length;let l2:=Ic g2
     change its'.length=es.length
     omega
    ·intro j v u d e h1 h2 h3 h4;let⟨x,hx,ex⟩:=MJ g1 h3;let⟨y,hy,ey⟩:=MJ g2 h4;let⟨v',hv,rv⟩:=rs.at hx;let⟨u',jf,ru⟩:=cw.at hy;let e1:v=v':=by have:its[j]?=a_ v:=h1;rw[hv]at this;show(zl this).symm
     let e2:u=u':=by have:its'[j]?=a_ u:=h2;rw[jf]at this;show(zl this).symm
     subst e1 e2;let kx:=kp x (Wn hx);let ky:=kq y (Wn hy);let sk:A.in1.units+n<cLine:=by change A.units+1+n<cLine;omega
     refine⟨?_,λ_ b hb=>?_⟩
     ·rw[Jo n x y d e (qG _ _ kx) (qG _ _ ky) ex ey];show HJ kx ky sk rv ru
     ·rw[QF n x y d e (qG _ _ kx) (qG _ _ ky) ex ey]at hb;show ih kx ky sk rv ru hb
   |_=>simp[ltP]at e
  |_=>cases hp
section
def MK:Y9 0->Prop
 |.tup _::_=>False
 |_=>True
theorem Dn{b fin:Bool}{n:Nat}{Q:jn Bool}(hu:A.units+n<cLine):∀(ps qs:Y9 0)(us ws:ZE 0)(i:Nat)(c:Bool),(∀p∈ps,p.ky n=true)->(∀q∈qs,q.ky n=true)->HRs s.heap ps us->HRs s.heap qs ws->ltL (ltP n) ps qs=a_ c->((b&&i == 0)=true->MK ps)->fin=decide (ps.length<qs.length)->Q c s->KatLex prog w A b fin Q (us.zip ws) i s
 |[],[],[],[],i,c,_,_,_,_,hc,_,hf,h=>by
  cases hc
  rw[hf];show h
 |[],q::qs,[],u::ws,i,c,_,_,_,_,hc,_,hf,h=>by
  cases hc
  rw[hf];show h
 |p::ps,[],u::us,[],i,c,_,_,_,_,hc,_,hf,h=>by
  cases hc
  rw[hf];show h
 |p::ps,q::qs,u::us,v::ws,i,c,kp,kq,rs,cw,hc,hn,hf,h=>by
  rw[List.zip_cons_cons];let ae:(if p=q then ltL (ltP n) ps qs else ltP n p q)=a_ c:=hc;let k1:=kp p y8;let k2:=kq q y8;refine kat_cons (HJ k1 k2 hu rs.1 cw.1 prog w _ _ ?_);by_cases pq:p=q
  ·rw[if_pos pq]at ae;rw[decide_eq_true pq];refine kat_yes (Dn hu ps qs us ws (i+1) c (λz hz=>kp z (y9 _ hz)) (λz hz=>kq z (y9 _ hz)) rs.2 cw.2 ae (λz=>?_) ?_ h)
   ·cases b <;> simp at z
   ·rw[hf];simp
  ·rw[if_neg pq]at ae;rw[decide_eq_false pq];refine kat_no ?_;let gen:B_ (oneLt' false u v) Q (λ_ _=>False) s:=kat_one _ _ (Sg n k1 k2 hu rs.1 cw.1 ae prog w _ (PySem.W.BoolBack Q) h);cases hb:(b&&i == 0) with
   |false=>exact gen
   |true=>
    let jw:=hn hb;cases p with
    |tup _=>exact jw.elim
    |int a=>
     cases q with
     |int d=>
      let⟨t,rfl⟩:=rs.1;let⟨t',rfl⟩:=cw.1;let e:decide (a<d)=c:=by cases n <;> exact zl ae
      rw[<-e]at h;show oneLt_int h
     |_=>cases n <;> simp[ltP]at ae
    |str a=>
     cases q with
     |str d=>
      let⟨t,rfl⟩:=rs.1;let⟨t',rfl⟩:=cw.1;let e:decide (a.cps.toList<d.cps.toList)=c:=by cases n <;> exact zl ae
      rw[<-e]at h;show oneLt_str h
     |_=>cases n <;> simp[ltP]at ae
    |_=>exact rs.1.elim
 |[],_,_::_,_,_,_,_,_,r,_,_,_,_,_=>r.elim
 |_::_,_,[],_,_,_,_,_,r,_,_,_,_,_=>r.elim
 |_,[],_,_::_,_,_,_,_,_,r,_,_,_,_=>r.elim
 |_,_::_,_,[],_,_,_,_,_,r,_,_,_,_=>r.elim
theorem ML{q:PV}{v:qe}{c:Bool}{Q:jn Bool}(hu:A.units+n<cLine)(kp:p.ky (n+1)=true)(kq:q.ky (n+1)=true)(tp:∃ps,p=.tup ps/\(b=true->MK ps))(tq:∃qs,q=.tup qs)(r:Z3 p v)(r':Z3 q u)(hc:ltP (n+1) p q=a_ c)(h:Q c s):
  B_ (keyLt' (tuples' b) v u) Q E s:=by
 let⟨ps,rfl,hn⟩:=tp;let⟨qs,rfl⟩:=tq;let⟨a,its,rfl,⟨ox,o9,_,m,dx⟩,rs⟩:=r;let⟨a',its',rfl,⟨oy,qr,_,m',dy⟩,cw⟩:=r';refine kat_lt o9 dx qr dy ?_;let l1:=rs.length;let l2:=cw.length;let e1:decide (its.toArray.size<its'.toArray.size)=decide (ps.length<qs.length):=by simp[l1,l2]
 rw[e1];show Dn hu ps qs its its' 0 c (zk.mp kp) (zk.mp kq) rs cw hc (λz=>hn (by cases b <;> simp at z;rfl)) rfl h
def fk:PV->Nat
 |.tup (.int _::_)=>0
 |.tup (.str _::_)=>1
 |.tup (.tup _::_)=>2
 |_=>3
def fkT(m:Nat):qe:=.type (if m=0 then "int" else if m=1 then "str" else "tuple")
theorem Bz{m:Nat}(hm:m<3):∀{ps:Y9 0}{vs:ZE 0},HRs s.heap ps vs->(∀p∈ps,fk p=m)->∃fs:ZE 0,fs.length=vs.length/\KatTups s.heap vs fs/\∀f∈fs,Looks (model prog w) s.heap (typeOf f) (fkT m)
 |[],[],_,_=>⟨[],rfl,KatTups.nil,λ_ hf=>nomatch hf⟩
 |p::ps,v::vs,r,hs=>by
  let⟨fs,hl,ht,hT⟩:=Bz hm r.2 λx hx=>hs x (y9 _ hx);let h0:=hs p y8;let r1:=r.1;cases p with
  |tup xs=>
   let⟨a,its,rfl,⟨o,ho,hc,n,hd⟩,rx⟩:=r1;cases xs with
   |nil=>simp[fk]at h0;omega
   |cons x xs=>
    cases its with
    |nil=>exact rx.elim
    |cons f its=>
     refine⟨f::fs,by simp[hl],KatTups.cons ho hc hd (by simp) ht,λg hg=>?_⟩;rcases zq.mp hg with rfl|hg
     ·let rf:=rx.1;cases x with
      |int i=>let⟨t,rfl⟩:=rf;have:m=0:=h0.symm;subst this;show Looks.now
      |str i=>let⟨t,rfl⟩:=rf;have:m=1:=h0.symm;subst this;show Looks.now
      |tup i=>let⟨a',its',rfl,⟨o',br,ae,n',bq⟩,_⟩:=rf;have:m=2:=h0.symm;subst this;have:Looks (model prog w) s.heap (typeOf (.ref a')) o'.cls:=(Looks.ld br).andThen .now;rw[ae]at this;show this
      |_=>exact rf.elim
     ·show hT g hg
  |_=>simp[fk]at h0;omega
 |[],_::_,r,_=>r.elim
 |_::_,[],r,_=>r.elim
theorem P7{m:Nat}(hm:m<3){ps:Y9 0}{vs:ZE 0}{Q:jn SortKind}(r:HRs s.heap ps vs)(hs:∀p∈ps,fk p=m)(h0:0<vs.length)(h:Q (tuples' (decide (m≠2))) s):B_ (keyKind' vs.toArray) Q E s:=by
 let⟨fs,hl,ht,hT⟩:=Bz (prog:=prog) (w:=w) hm r hs;refine kat_kind (T:=fkT m) ht ⋯ hT ?_ ?_
 ·match m,hm with
  |0,_=>rfl
  |1,_=>rfl
  |2,_=>rfl
 ·have:((fkT m) != Value.type "tuple")=decide (m≠2):=by
   match m,hm with
   |0,_=>rfl
   |1,_=>rfl
   |2,_=>rfl
  rw[this];show h
end
structure OkN(m:Nat)(xs:x_ PV):Prop where
 m3:m<3
 ky:∀x∈xs,x.ky 20=true
 fk:∀x∈xs,fk x=m
 lt:∀x∈xs,∀y∈xs,(ltP 20 x y).isSome=true
def okN(xs:Y9 0):Bool:=match xs with
 |[]=>true
 |x::_=>decide (fk x<3)&&xs.all (PV.ky 20)&&xs.all (λy=>fk y == fk x)&&xs.all λy=>xs.all λz=>(ltP 20 y z).isSome
theorem Sh(h:okN xs=true):∃m,OkN m xs:=by
 cases xs with
 |nil=>exact⟨0,⋯,(λx hx=>nomatch hx),(λx hx=>nomatch hx),λx hx=>nomatch hx⟩
 |cons x xs=>have h':(decide (fk x<3)&&(x::xs).all (PV.ky 20)&&(x::xs).all (λy=>fk y == fk x)&&(x::xs).all λy=>(x::xs).all λz=>(ltP 20 y z).isSome)=true:=h;rw[zp,zp,zp]at h';let⟨⟨⟨h1,h2⟩,h3⟩,h4⟩:=h';show⟨fk x,of_decide_eq_true h1,zk.mp h2,λy hy=>by simpa using zk.mp h3 y hy,λy hy z hz=>zk.mp (zk.mp h4 y hy) z hz⟩
theorem Si{m:Nat}(h:OkN m xs):okN xs=true:=by
 cases xs with
 |nil=>rfl
 |cons x xs=>
  change(decide (fk x<3)&&(x::xs).all (PV.ky 20)&&(x::xs).all (λy=>fk y == fk x)&&(x::xs).all λy=>(x::xs).all λz=>(ltP 20 y z).isSome)=true
  let hx:=h.fk x y8;rw[zp,zp,zp];show⟨⟨⟨decide_eq_true (by rw[hx];show h.m3),zk.mpr h.ky⟩,zk.mpr λy hy=>by rw[h.fk y hy,hx];simp⟩,zk.mpr λy hy=>zk.mpr λz hz=>h.lt y hy z hz⟩
theorem OkN.inj{m:Nat}(h:OkN m xs):∀a∈xs,∀b∈xs,enc a=enc b->a=b:=λa ha b hb e=>by let⟨c,hc⟩:=W0.mp (h.lt a ha b hb);show P6 hc e
theorem MM{m:Nat}(hm:m<3)(h:fk p=m):∃ps,p=.tup ps/\(decide (m≠2)=true->MK ps):=by
 cases p with
 |tup xs=>
  refine⟨xs,rfl,λhd=>?_⟩;let bq:m≠2:=of_decide_eq_true hd;cases xs with
  |nil=>trivial
  |cons x xs=>cases x <;> first|trivial|(exact(bq h.symm).elim)
 |_=>simp[fk]at h;omega
theorem HRs.kept{h:t_}(k:∀b o,h.get? b=a_ o->ZW 0=a_ o){ps:Y9 0}{vs:ZE 0}(r:HRs h ps vs):HRs h' ps vs:=HRs.keep (λa x ⟨o,ho,q⟩=>⟨o,k a o ho,q⟩) r
theorem HRs.getD{h:t_}{ps:Y9 0}{vs:ZE 0}(r:HRs h ps vs)(hi:i<ps.length):HR h (ps.getD i .non) (ZC 0):=by
 let g:ps[i]?=a_ (ps.getD i .non):=by simp[hi]
 let⟨v,hv,hr⟩:=r.at g;let e:ZC 0=v:=by simp[WC,hv]
 rw[e];show hr
theorem RVs.pick'(r:ZQ 0):∀{p:x_ Nat},(∀i∈p,i<xs.length)->A_ (p.map λi=>xs.getD i .non) (p.map λi=>vs.getD i .non)
 |[],_=>trivial
 |i::p,h=>by
  let hi:=h i y8;let g:xs[i]?=a_ (xs.getD i .non):=by simp[hi]
  let⟨v,hv,hr⟩:=r.at g;let e:vs.getD i .non=v:=by simp[WC,hv]
  refine⟨?_,RVs.pick' r λj hj=>h j (y9 _ hj)⟩
  change p_ (xs.getD i .non) (vs.getD i .non)
  rw[e];show hr
def Sj(C:MC):x_ V->Hp->VK->Prop:=λxs H Q=>∃φ p ys vs m,xs=[.ref p]/\SqL C.K H p vs/\A_ ys vs/\OkN m ys/\ys.length<64/\∀l cg,H l=b_->A_ (kC id ys) cg->Q (.ref l) (R_ l (.lst cg))
theorem Ec{k:Nat}(c:Y4 X):eL X (.builtin "sorted") (Sj C):=by
 intro FR s σ H xs us Q I r h;let⟨φ,p,ys,vs,m,rfl,sa,ra,ok,h64,fin⟩:=h;let⟨u,rfl,ru⟩:=vals1 r;cases ru
 let hu:X.A.in1.in1.units+19<cLine:=by
  have:=c.hu64
  change X.A.units+1+1+19<cLine
  omega
 let memD:∀i,i<ys.length->ys.getD i .non∈ys:=λi hi=>by
  have:ys.getD i .non=ys[i]:=by simp[hi]
  rw[this];show Xd hi
 refine Da (κ:=tuples' (decide (m≠2))) (λits s1=>N_ s1/\aS vs its) ?col ?fin
 case fin=>
  rintro its s1 ⟨I1,rv⟩;let l1:=rv.length;let l2:=ra.length;let hlen:its.length=ys.length:=⋯;let hr:HRs s1.heap ys its:=E7 I1 c.K 20 ok.ky ra rv;refine⟨⋯,λi j=>ltN (ys.getD i .non) (ys.getD j .non),λi j k _ _ _ h1 h2=>MI h1 h2,λi j _ _ h=>Ib h,λA' s' kp h0 Q' E' hq=>?_,λs' kp i j hi hj Q' hq=>?_,λq h' e a1 a2 kp he=>?_⟩
  ·show P7 ok.m3 (hr.kept kp) ok.fk h0 hq
  ·let mi:=memD i ⋯;let mj:=memD j ⋯;let⟨b,hb⟩:=W0.mp (ok.lt _ mi _ mj);let hq:Q' (ltN (ys.getD i .non) (ys.getD j .non)) s':=hq;rw[MH hb]at hq;let⟨qs,eq,_⟩:=MM ok.m3 (ok.fk _ mj);show ML (n:=19) hu (ok.ky _ mi) (ok.ky _ mj) (MM ok.m3 (ok.fk _ mi)) ⟨qs,eq⟩ ((hr.kept kp).getD ⋯) ((hr.kept kp).getD ⋯) hb hq
  ·let bt:∀i∈q,i<ys.length:=λi hi=>by have:=a1.mem_iff.mp hi;rw[List.mem_range]at this;omega
   rw[hlen]at a1;refine⟨.ref (e_ s1),_,I1.laid (t':=s1.toks) (o:=.lst (q.map λi=>vs.getD i .non)) kp (zd _) ?_,rfl,fin _ _ I1.fresh ?_⟩
   ·refine⟨?_,q.map (λi=>its.getD i zo),e,rQ rv (λi hi=>by have:=bt i hi;omega),he⟩;rw[za,a1.length_eq,Xv,Wm];omega
   ·let e1:q.map (λi=>ys.getD i .non)=kC id ys:=by refine KC id (λa ha b hb e=>ok.inj a ha b hb e) (xO a1) ?_;rw[Xi];show a2
    rw[<-e1];show ra.pick' bt
 case col=>
  let gz:SqL X.K H p vs:=by rw[c.K];show sa
  let⟨its,rv,pl,hz⟩:=I.list gz;refine collect_list pl.isList ?_ (by have:=rv.length;have:=ra.length;rw[Wm];omega);show⟨I.kept (t':=s.toks) λb o e=>by
   let ai:b<(e_ s):=zi e
   first
    |(rw[Heap.get?_update_ne _ _ _ _ (Io ai),Xu _ _ _ (Io ai)];show e)
    |exact y6 _ e,rv⟩
def nF:Y9 0->PH->Rs PV:=λxs h=>match xs with
 |[.ref n]=>match aZ h n with
  |some ys=>if ys.length<64/\okN ys=true then .ok (.ref h.length) (h++[.lst (kC id ys)]) else .bad
  |none=>.bad
 |_=>.bad
theorem KD{k:Nat}:vD C k X (.builtin "sorted") nF:=λc=>eL.imp (Ec c) λvs H Q h=>by
 let⟨φ,h,ps,rh,rv,po⟩:=h;unfold nF at po;split at po
 ·rename_i n;split at po
  ·rename_i ys e;let⟨hc,po⟩:=po.ite;let⟨v,rfl,rx⟩:=rv.one;let⟨a,rfl,ha⟩:=rx;let⟨a2,vs,ar,sa,ra⟩:=cZ rh e;rw[ha]at ar;cases ar;let⟨m,ok⟩:=Sh hc.2;show⟨φ,a,ys,vs,m,rfl,sa,ra,ok,hc.1,λl cg hl hr=>po.lnew rh hr hl⟩
  ·show po.elim
 ·show po.elim
theorem G0{m:Nat}(e:h[n]?=a_ (.lst ys))(hl:ys.length<64)(ok:OkN m ys):nF [.ref n] h=.ok (.ref h.length) (h++[.lst (kC id ys)]):=by
 let e1:aZ h n=a_ ys:=by simp[aZ,e]
 simp only[nF,e1];rw[if_pos ⟨hl,Si ok⟩]
abbrev KP:=Zg 0×PV
def zT(x:KP):x_ KP->x_ KP
 |[]=>[x]
 |y::ys=>if cD y.1 x.1=true then y::zT x ys else x::y::ys
def kU:x_ KP->x_ KP
 |[]=>[]
 |x::xs=>zT x (kU xs)
theorem tN(x:KP):∀ys,(zT x ys).Perm (x::ys)
 |[]=>.refl _
 |y::ys=>by
  unfold zT;split
  ·show((tN x ys).cons y).trans (.swap x y ys)
  ·show .refl _
theorem mE:∀xs,(kU xs).Perm xs
 |[]=>.refl _
 |x::xs=>(tN x _).trans ((mE xs).cons x)
theorem vO{S:x_ Bool}{x:KP}(hx:shape x.1=S):∀{ys:x_ KP},(∀y∈ys,shape y.1=S)->ys.Pairwise (λa b=>cD b.1 a.1=false)->(zT x ys).Pairwise (λa b=>cD b.1 a.1=false)
 |[],_,_=>X9 _ _
 |y::ys,hs,hp=>by
  let hy:=hs y y8;let dh:=λz hz=>hs z (y9 _ hz);rw[VY]at hp;unfold zT;split
  ·rename_i h;rw[VY];refine⟨λz hz=>?_,vO hx dh hp.2⟩;rcases zq.mp ((tN x ys).mem_iff.mp hz) with rfl|hz
   ·show uZ h
   ·show hp.1 z hz
  ·rename_i h;let h':cD y.1 x.1=false:=by simpa using h
   rw[VY];refine⟨λz hz=>?_,VY.mpr hp⟩;rcases zq.mp hz with rfl|hz
   ·show h'
   ·show rP (hx.trans hy.symm) (hy.trans (dh z hz).symm) h' (hp.1 z hz)
theorem mQ{S:x_ Bool}:∀{xs:x_ KP},(∀y∈xs,shape y.1=S)->(kU xs).Pairwise (λa b=>cD b.1 a.1=false)
 |[],_=>.nil
 |x::xs,hs=>vO (hs x y8) (λy hy=>hs y (y9 _ ((mE xs).mem_iff.mp hy))) (mQ λy hy=>hs y (y9 _ hy))
theorem Dp{α β:Type}:∀{l:x_ (α×β)},(l.map (·.1)).Nodup->∀{a b:α×β},a∈l->b∈l->a.1=b.1->a=b
 |[],_,_,_,h,_,_=>nomatch h
 |x::l,nd,a,b,ha,hb,e=>by
  rw[zg,Xy]at nd;rcases zq.mp ha with rfl|ha'
  ·rcases zq.mp hb with rfl|hb'
   ·rfl
   ·show(nd.1 (zm.mpr ⟨b,hb',e.symm⟩)).elim
  ·rcases zq.mp hb with rfl|hb'
   ·show(nd.1 (zm.mpr ⟨a,ha',e⟩)).elim
   ·show Dp nd.2 ha' hb' e
theorem BB{xs ys:x_ KP}(hs:∀y∈xs,shape y.1=S)(nd:(xs.map (·.1)).Nodup)(hp:ys.Perm xs)(h:ys.Pairwise (λa b=>cD b.1 a.1=false)):ys=kU xs:=by refine YO (le:=λa b=>cD b.1 a.1=false) (λa b ha hb h1 h2=>?_) h (mQ hs) (hp.trans (mE xs).symm);let ha':=hp.mem_iff.mp ha;let hb':=(mE xs).mem_iff.mp hb;show Dp nd ha' hb' (B6 ((hs a ha').trans (hs b hb').symm) h2 h1)
open Classical in
noncomputable def sortBy(b:Bool)(ks ys:Y9 0):y_ (Y9 0):=match pH ks with
 |some aa=>if aa.length<64/\aa.length=ys.length/\pP aa=true/\aa.Nodup then a_ ((PySem.W.katRev b (kU (aa.zip ys))).map (·.2)) else b_
 |none=>b_
theorem KF(h1:aa.length<64)(h2:aa.length=ys.length)(h3:pP aa=true)(h4:aa.Nodup):sortBy b (aa.map tP) ys=a_ ((PySem.W.katRev b (kU (aa.zip ys))).map (·.2)):=by unfold sortBy;rw[Bu];show if_pos ⟨h1,h2,h3,h4⟩
noncomputable def mF(f:Fn)(b:Bool)(ys:Y9 0):Y9 0->Y9 0->PH->Rs PV
 |[],ks,h=>match sortBy b ks ys with
  |some zs=>.ok (.ref h.length) (h++[.lst zs])
  |none=>.bad
 |x::xs,ks,h=>(f [x] h).bind λk h1=>mF f b ys xs (ks++[k]) h1
def mR(x:PV)(h:PH):y_ (Y9 0):=match x with
 |.ref n=>match aZ h n with
  |some ys=>a_ ys
  |none=>Bx h n
 |.fl ys=>a_ ys
 |_=>b_
noncomputable def mS(f:Fn)(b:Bool)(x:PV)(h:PH):Rs PV:=match mR x h with
 |some ys=>if ys.length<64 then mF f b ys ys [] h else .bad
 |none=>.bad
noncomputable def tO(f:Fn)(b:Bool)(me:Me):Me:=λδ h=>(me δ h).bind λx h1=>mS f b x h1
theorem RVs.pick(r:ZQ 0):∀{p:x_ Nat},(∀i∈p,i<xs.length)->A_ (p.map λi=>xs.getD i .non) (p.map λi=>vs.getD i .non)
 |[],_=>trivial
 |i::p,h=>by
  let hi:=h i y8;let g:xs[i]?=a_ (xs.getD i .non):=by simp[hi]
  let⟨v,hv,hr⟩:=r.at g;let e:vs.getD i .non=v:=by simp[WC,hv]
  refine⟨?_,RVs.pick r λj hj=>h j (y9 _ hj)⟩
  change p_ (xs.getD i .non) (vs.getD i .non)
  rw[e];show hr
theorem MN(I:N_ s)(ha:(e_ s)<=a):X.s₀.heap.objs.size<=a/\a≠X.env.locals/\(∀x c,T_ 0=a_ c->c≠a)/\(∀p∈X.pn++FR,p.1≠a)/\a∉X.fs:=by
 refine⟨Wu I.sz ha,YK (zr I.lt ha),λx c e z=>?_,λp hp z=>?_,I.nofs ha⟩
 ·let⟨v,o,ho,_⟩:=I.cell x c e;rw[z]at ho;show absurd (zr (zi ho) ha) (WT _)
 ·let ho:=(I.pin p hp).1;rw[z]at ho;show absurd (zr (zi ho) ha) (WT _)
theorem qH{its:Y6 0}{e:Nat}:∀v,(seqObj "list" its e).data≠.cell v:=λv z=>nomatch z
theorem Inv.adopt{d:r_}{o:HO}(I:N_ s)(ha:H a=b_)(hd:H d=b_)(fa:X.s₀.heap.objs.size<=a/\a≠X.env.locals/\(∀x c,T_ 0=a_ c->c≠a)/\(∀p∈X.pn++FR,p.1≠a)/\a∉X.fs)(fd:X.s₀.heap.objs.size<=d/\d≠X.env.locals/\(∀x c,T_ 0=a_ c->c≠d)/\(∀p∈X.pn++FR,p.1≠d)/\d∉X.fs)(kp:∀x u,x≠a->x≠d->s.heap.get? x=a_ u->h'.get? x=a_ u)(new:Zj (R_ a o) h' a o):h_ (R_ a o) {s with heap:=h'}:=by
 let na:∀x u,H x=a_ u->x≠a:=λx u e z=>by rw[z,ha]at e;cases e
 let nd:∀x u,H x=a_ u->x≠d:=λx u e z=>by rw[z,hd]at e;cases e
 refine I.call' (s':={s with heap:=h'}) (ch:=[a,d]) rfl ⟨λb u q n _ hx=>?_,λb u q n _ hx=>⟨u.slots,?_⟩,λb u q n hx=>?_,λb u q hx=>⟨u,?_⟩,λb xs q=>?_,λb u xs q=>?_,λb ps q=>⟨#[],?_⟩⟩ (λb u e=>?_) I.bare λb hb=>?_
 ·show kp b u (λz=>hx (by simp[z])) (λz=>hx (by simp[z])) q
 ·show kp b u (λz=>hx (by simp[z])) (λz=>hx (by simp[z])) q
 ·rw[aQ (λz=>hx (by simp[z]))];show n
 ·show kp b u (λz=>hx (by simp[z])) (λz=>hx (by simp[z])) q
 ·rw[aQ (na _ _ q)];show q
 ·rw[aQ (na _ _ q)];show q
 ·rw[aQ (na _ _ q),q];simp
 ·by_cases hb:b=a
  ·subst hb;rw[aX]at e;cases e;show new
  ·rw[aQ hb]at e;refine(I.hok b u e).stay (λc v hc q=>kp c v ?_ ?_ q) (λc q=>by rw[aQ (na _ _ q)];show q) λc xs q=>by rw[aQ (na _ _ q)];show q
   ·rcases hc with z|z
    ·rw[z];show hb
    ·show na _ _ z
   ·rcases hc with z|z
    ·rw[z];show nd _ _ e
    ·show nd _ _ z
 ·rcases zq.mp hb with rfl|hb
  ·show⟨.inr fa.1,fa.2.1,fa.2.2.1,fa.2.2.2.1⟩
  ·rw[z7.mp hb];show⟨.inr fd.1,fd.2.1,fd.2.2.1,fd.2.2.2.1⟩
def Sk(C:MC)(X:Cx)(FR:gV 0)(σ:St)(φ:x_ r_)(H:Hp)(f:Fn)(b:Bool)(ys:Y9 0)(Q:VK)(a z:r_)(kS:r_)(e1:Nat)(ks:ZE 0)(e:Nat)(s':q_):Prop:=z<kS/\∃H' φ' h' zs ps,Inv X (FR++[(kS,seqObj "list" ks.toArray e),(a,seqObj "list" #[] e1)]) σ H' s'/\φ<+:φ'/\Zu H'/\Zh h'/\aS zs ks/\RVs C φ' H' ps zs/\post C φ' H' (mF f b ys (ys.drop ks.length) ps h') Q
variable{A':td}{pn:Zw 0}
theorem MP{k:Nat}{q:r_}{f:Fn}{us:x_ V}{Q:VK}(c:Y4 X)(D:Def C.K X.mg x st q fd pn)(G:M_ q fd pn (spM C 1 f))(hj:j+2<=k)(ry:A_ ys us)(rv:aS us its)(eA:A'=X.A.in1.in1)(fr:∀kS,a<=kS->X.s₀.heap.objs.size<=kS/\kS≠X.env.locals/\(∀x c,T_ 0=a_ c->c≠kS)/\(∀p∈X.pn++FR,p.1≠kS)/\kS∉X.fs)(kS:r_)(e1:Nat)(ks:ZE 0)(e:Nat)(s':q_)(y:qe)(hy:its[ks.length]?=a_ y)(hJ:Sk C X FR σ φ H f b ys Q a a kS e1 ks e s'):
  wpAny (g_ X) A' (call (.ref q) [y]) (λv cx=>cx.heap.get? kS=a_ (seqObj "list" ks.toArray e)/\∀(h':t_) e',WX kS cx.heap h'->h'.get? kS=a_ (seqObj "list" (ks++[v]).toArray e')->Sk C X FR σ φ H f b ys Q a a kS e1 (ks++[v]) e' { cx with heap:=h'}) (λ_ _=>False) s':=by
 subst eA;let⟨hz,H',φ',h',zs,ps,I,pp,tt,rh,rz,rp,po⟩:=hJ;let ai:ks.length<its.length:=(yy.mp hy).1;let um:us.length=its.length:=rv.length;let sd:ys.length=us.length:=ry.length;let gy:ys[ks.length]?=a_ (ys[ks.length]'⋯):=by simp
 let⟨u,hu,ru⟩:=ry.at gy;let⟨y',e9,yg⟩:=rv.get hu;rw[hy]at e9;cases e9
 let hd:ys.drop ks.length=ys[ks.length]'⋯::ys.drop (ks.length+1):=drop_cons gy;rw[hd]at po;let sm:=c.K;let G':H_ CX0 j q fd pn (spM C 1 f):=by rw[sm];show G
 let D':Def X.K X.mg x st q fd pn:=by rw[sm];show D
 let u6:spM C 1 f [u] H' (λv H2=>∃φ2 p h2,φ'<+:φ2/\Kp H' H2/\RH C φ2 H2 h2/\RV C φ2 H2 p v/\post C φ2 H2 (mF f b ys (ys.drop (ks.length+1)) (ps++[p]) h2) Q) E0:=⟨φ',h',[ys[ks.length]'⋯],rh,⟨ru.mono pp tt,trivial⟩,rfl,post.bind po⟩;let hl:([y]:ZE 0).length=pn.length:=G'.len _ _ _ _ u6;refine wpAny_call (codeAny_mono (G'.run X.A.in1.in1 X.stack s' H' ⟨[y],[]⟩ [y] [u] _ E0 ((c.room.mono hj).in1.in1) I.env0.in1.in1 (by
  have:=D'.bd s' [y] I.kIn (ke hl)
  simpa using this) (.cons yg .nil) u6) λr s2 hq=>?_)
 cases r with
 |error e=>exact hq.elim
 |ok fl=>
  cases fl with
  |next=>exact Xh hq
  |brk=>exact Xh hq
  |cont=>exact Xh hq
  |ret v=>
   let⟨x2,H2,I2,vg,φ2,p2,h2,uf,u4,aj,ou,vi⟩:=I.after hq;let gk:=I2.pin (kS,seqObj "list" ks.toArray e) (ze _ (ze _ y8));let ga:=I2.pin (a,seqObj "list" #[] e1) (ze _ (ze _ (y9 _ y8)));refine⟨gk.1,λg e' sb gm=>?_⟩;let fk:=fr kS (XE hz);let yk:a≠kS:=Io hz;let I3:Inv X (FR++[(a,seqObj "list" #[] e1)]) σ H2 s2:=I2.pins_of λp hp=>(Wc.mp hp).elim (λz=>I2.pin p (ze _ (WR _ z))) λz=>by rw[z7.mp z];show ga
   let I4:=I3.turned (t':=s2.toks) (it:=kS) (h':=g) (λb' o' hb hq=>(sb.2 b' hb).trans hq) gk.2.1 fk.2.1 (.inr fk.1) fk.2.2.1 (λp hp=>by
    rcases Wc.mp hp with hp|hp
    ·show fk.2.2.2.1 p (WR _ hp)
    ·rcases Wc.mp hp with hp|hp
     ·show fk.2.2.2.1 p (ze _ hp)
     ·rw[z7.mp hp];show yk)
   refine⟨hz,H2,φ2,h2,zs++[x2],ps++[p2],I4.pins_of λp hp=>?_,pp.trans uf,tt.trans u4,aj,rz.append (.cons vg .nil),(rp.mono uf u4).snoc ou,?_⟩
   ·rcases Wc.mp hp with hp|hp
    ·show I4.pin p (ze _ (WR _ hp))
    ·rcases zq.mp hp with rfl|hp
     ·show⟨gm,gk.2.1,fk.2.1,fk.2.2.2.2,qH⟩
     ·rw[z7.mp hp];show I4.pin _ (ze _ (ze _ y8))
   ·rw[W5];show vi
theorem G1(hl:aa.length=ys.length)(hs:∀y∈aa,shape y=S)(nd:aa.Nodup){p:x_ Nat}(hp:p.Perm (z0 ys.length))(ho:p.Pairwise (λi j=>(if b then cD (aa.getD i []) (aa.getD j []) else cD (aa.getD j []) (aa.getD i []))=false)):p.map (λi=>ys.getD i .non)=(PySem.W.katRev b (kU (aa.zip ys))).map (·.2):=by
 letI zs:=aa.zip ys;let wt:zs.length=ys.length:=by change(aa.zip ys).length=_;simp[hl]
 let bt:∀i∈p,i<ys.length:=λi hi=>by simpa using hp.mem_iff.mp hi
 let eg:∀i,i<ys.length->zs.getD i ([],.non)=(aa.getD i [],ys.getD i .non):=λi hi=>by
  let h1:i<aa.length:=⋯;let h2:i<zs.length:=⋯;let h3:(aa.zip ys)[i]?=a_ (aa[i],ys[i]):=by rw[List.getElem?_zip_eq_some];show⟨by simp[h1],by simp[hi]⟩
  change(aa.zip ys).getD i _=_
  simp[h1,hi,h3]
 let sr:(p.map λi=>zs.getD i ([],.non)).Perm zs:=xO (by rw[wt];show hp);let hm:zs.map (·.1)=aa:=by
  change(aa.zip ys).map Prod.fst=aa
  show List.map_fst_zip ⋯
 let hsz:∀y∈zs,shape y.1=S:=λy hy=>hs _ (by rw[<-hm];show zm.mpr ⟨y,hy,rfl⟩);let e2:p.map (λi=>ys.getD i .non)=(p.map λi=>zs.getD i ([],.non)).map (·.2):=by rw[Wp];show WW λi hi=>by change _=(zs.getD i _).2;rw[eg i (bt i hi)]
 rw[e2];let key:∀(R:Nat->Nat->Bool),p.Pairwise (λi j=>R i j=false)->(∀i j,i<ys.length->j<ys.length->R i j=cD (zs.getD j ([],.non)).1 (zs.getD i ([],.non)).1)->(p.map λi=>zs.getD i ([],.non)).Pairwise (λx y=>cD y.1 x.1=false):=λR h1 h2=>by rw[Xi];show h1.imp_of_mem λ{i j} hi hj h=>by rw[<-h2 i j (bt i hi) (bt j hj)];show h
 cases b with
 |false=>
  congr 1;refine BB hsz (by rw[hm];show nd) sr (key (λi j=>cD (aa.getD j []) (aa.getD i [])) ho λi j hi hj=>by rw[eg i hi,eg j hj])
 |true=>
  congr 1;let hr:(p.map λi=>zs.getD i ([],.non)).reverse=kU zs:=by refine BB hsz (by rw[hm];show nd) ((List.reverse_perm _).trans sr) ?_;rw[List.pairwise_reverse,Xi];show ho.imp_of_mem λ{i j} hi hj h=>by rw[eg i (bt i hi),eg j (bt j hj)];show h
  change _=(kU zs).reverse
  rw[<-hr,List.reverse_reverse]
variable{kw:x_ (Str×qe)}
theorem BD{k:Nat}{q:r_}{f:Fn}(c:Y4 X)(D:Def C.K X.mg x st q fd pn)(G:M_ q fd pn (spM C 1 f))(hj:j+2<=k)(u7:∀v,argsOk "sorted" ⟨[v],kw⟩)(ar:∀v,argsOk "list.sort" ⟨[.ref v],kw⟩)(ht:∀v,Builtin.«list.sort» ⟨[.ref v],kw⟩=ksk_tree v (.ref q) b){Q:VK}(I:N_ s)(ru:ZF u)(h:r1 C (mS f b) v H Q):
  wpAny (g_ X) X.A (call (.builtin "sorted") [u] kw) (Y2 Q) X.xe s:=by
 let⟨φ,h,p,rh,rp,po⟩:=h;unfold mS at po;cases ei:mR p h with
 |none=>rw[ei]at po;show po.elim
 |some ys=>
 rw[ei]at po;let⟨h64,po⟩:=po.ite;refine call_function_entry_kw kind_sorted plain_sorted entry_sorted (u7 u) ?_;unfold Builtin.«sorted»;refine yx (m:=checkCount "sorted" 1 1 _) (yz ?_);let col:wpAny (g_ X) X.A.in1 (collect u) (λits s1=>∃us,N_ s1/\aS us its/\A_ ys us) X.xe s:=by
  let ij:∀{a:r_}{vs:x_ V},v=.ref a->SqL C.K H a vs->A_ ys vs->wpAny (g_ X) X.A.in1 (collect u) (λits s1=>∃us,N_ s1/\aS us its/\A_ ys us) X.xe s:=λ{a vs} ev sa ra=>by
   subst ev;cases ru
   let gz:SqL X.K H a vs:=by rw[c.K];show sa
   let⟨its,rv,pl,hz⟩:=I.list gz;refine collect_list pl.isList ?_ (by have:=rv.length;have:=ra.length;rw[Wm];omega);show⟨vs,I.kept (t':=s.toks) λb o e=>by
    let ai:b<(e_ s):=zi e
    first
     |(rw[Heap.get?_update_ne _ _ _ _ (Io ai),Xu _ _ _ (Io ai)];show e)
     |exact y6 _ e,rv,ra⟩
  unfold mR at ei;split at ei
  ·rename_i n;split at ei
   ·rename_i ys' e;cases ei
    let⟨a,ev,ha⟩:=rp;let⟨a2,vs,ar,sa,ra⟩:=cZ rh e;rw[ha]at ar;cases ar;show ij ev sa ra
   ·unfold Bx at ei;split at ei
    ·rename_i d hv;let⟨a,ev,ha⟩:=rp;subst ev;cases ru
     let⟨bb,hb,hH⟩:=Y0 hv;let⟨hT,hm,hz,oc,es,ep,g1,g2,ws,r1,r2⟩:=FW c I rh hb ei;let wm:s.heap.IsValuesView a bb:=(I.hok a _ hH).1;let hn:es.size<=zf:=by
      let e1:=r1.length;let e2:ws.length=es.size:=by have:=r2.length;simpa using this
      rw[<-e2,<-e1];show hz
     refine PySem.W.kdu_collect (M1 (r:=a) g2) (I.ok.hd c.calm) ⟨wm,g1⟩ hn λh' tk acc hk cb=>?_;show⟨ws,I.kept (t':=tk) hk,by rw[MF cb];show r2,r1⟩
    ·cases ei
  ·cases ei
   let⟨a,vs,ev,sa,ra⟩:=rp;show ij ev sa.sq ra
  ·cases ei
 refine yx (Xg col (λits s1 hh=>?_) λ_ _ z=>z);let⟨us,I1,rv,ry⟩:=hh;let um:us.length=its.length:=rv.length;let sd:ys.length=us.length:=ry.length;refine yx (wpAny_newList ?_ (by rw[Wm];omega));let gi:(s1.heap.push (seqObj "list" its.toArray 0)).get? (e_ s1)=a_ (seqObj "list" its.toArray 0):=ZL 0;let keep:∀b o,s1.heap.get? b=a_ o->b≠(e_ s1)/\(s1.heap.push (seqObj "list" its.toArray 0)).get? b=a_ o:=λb o q=>⟨Io (zi q),y6 _ q⟩;let fr:∀kS,(e_ s1)<=kS->X.s₀.heap.objs.size<=kS/\kS≠X.env.locals/\(∀x c,T_ 0=a_ c->c≠kS)/\(∀p∈X.pn++FR,p.1≠kS)/\kS∉X.fs:=λkS hk=>MN I1 hk
 change I_ _ _ _ {s1 with heap:=s1.heap.push (seqObj "list" its.toArray 0)}
 refine yx (WV (wpAny_call_entry_kw slot_list_sort ⟨_,gi,rfl⟩ entry_list_sort ?body (ar _)))
 case body=>
  change wpAny (g_ X) X.A.in1.in1 (Builtin.«list.sort» ⟨[.ref (e_ s1)],kw⟩) _ _ _
  rw[ht (e_ s1)];refine HG (s:={s1 with heap:=s1.heap.push (seqObj "list" its.toArray 0)}) (a:=(e_ s1)) (κ:=tuples' true) (vs:=its) gi ⋯ (Sk C X FR σ φ H f b ys Q (e_ s1) (e_ s1)) ?h0 ?cp ?turn ?fin
  case h0=>
   intro kS e1 h' kp hk g1 g2;let jq:(e_ s1)<kS:=by have:(s1.heap.push (seqObj "list" its.toArray 0)).objs.size<=kS:=hk;rw[Yy]at this;show this
   let I2:N_ {s1 with heap:=h'}:=I1.kept (t':=s1.toks) λb o q=>kp b o (keep b o q).1 (keep b o q).2;let fk:=fr kS (XE jq);let fa:=fr (e_ s1) (zd _);refine⟨jq,H,φ,h,[],[],I2.pins_of λp hp=>?_,zc,Kp.refl H,rh,.nil,trivial,po⟩;rcases Wc.mp hp with hp|hp
   ·show I2.pin p (ze _ hp)
   ·rcases zq.mp hp with rfl|hp
    ·show⟨g2,I1.hok.fresh (XE jq),fk.2.1,fk.2.2.2.2,qH⟩
    ·rw[z7.mp hp];show⟨g1,I1.hok.fresh (zd _),fa.2.1,fa.2.2.2.2,qH⟩
  case cp=>rintro kS e1 ks e s' ⟨hz,H',φ',h',zs,ps,I',_⟩;show⟨YK hz,(I'.pin (s1.heap.objs.size,seqObj "list" #[] e1) (ze _ (ze _ (y9 _ y8)))).1,(I'.pin (kS,seqObj "list" ks.toArray e) (ze _ (ze _ y8))).1⟩
  case turn=>intro kS e1 ks e s' y hy hJ;show MP c D G hj ry rv rfl fr kS e1 ks e s' y hy hJ
  case fin=>
   rintro kS e1 ks e s' hl ⟨hz,H',φ',h',zs,ps,I',pp,tt,a7,rz,rp',po'⟩;let hd:ys.drop ks.length=[]:=List.drop_eq_nil_of_le ⋯;rw[hd]at po';unfold mF at po';cases es:sortBy b ps ys with
   |none=>rw[es]at po';show po'.elim
   |some out=>
   rw[es]at po';unfold sortBy at es;split at es
   ·rename_i aa ek;split at es
    ·rename_i hc;let⟨hc1,bu,yb,xh⟩:=hc;cases es
     let ep:=Bt ek;subst ep;let⟨bb,sh,hsh⟩:=tL yb;let rr:eO X.K H' (aa.map tD) zs:=by rw[c.K];show vL.mp rp'
     let tk:=tE I' rr rz;let az:∀i,i<its.length->shape (aa.getD i [])=bb::sh:=λi hi=>by
      let ak:i<aa.length:=⋯;have:aa.getD i []=aa[i]:=by simp[ak]
      rw[this];show hsh _ (Xd ak)
     refine⟨λi j=>cD (aa.getD i []) (aa.getD j []),λi j k hi hj hk h1 h2=>?_,λi j _ _ h=>uZ h,λh2 Q' E' hq=>?_,λi j hi hj Q' hq=>?_,λp g e2 a1 a2 kp he gk=>?_⟩
     ·show rP ((az i hi).trans (az j hj).symm) ((az j hj).trans (az k hk).symm) h1 h2
     ·show D9 tk hsh ⋯ hq
     ·let⟨a,ua,q1,p1,r1⟩:=tk.get (i:=i) ⋯;let⟨d,ud,q2,p2,r2⟩:=tk.get (i:=j) ⋯;rw[q1,q2];show Bb p1 p2 r1 r2 ((az i hi).trans (az j hj).symm) hq
     ·let bt:∀i∈p,i<its.length:=λi hi=>by simpa using a1.mem_iff.mp hi
      let fa:=fr (e_ s1) (zd _);let fk:=fr kS (XE hz);let ym:=I'.pin (kS,seqObj "list" ks.toArray e) (ze _ (ze _ y8));let tu:=I'.pin (s1.heap.objs.size,seqObj "list" #[] e1) (ze _ (ze _ (y9 _ y8)));let I5:h_ H' s':=I'.unpinned;let I6:=I5.adopt (a:=(e_ s1)) (d:=kS) (o:=.lst (p.map λi=>us.getD i .non)) (h':=g) tu.2.1 ym.2.1 fa fk (λx o h1 h2 q=>kp x o h1 h2 q) (by refine⟨?_,p.map (λi=>its.getD i zo),e2,rQ rv (λi hi=>by have:=bt i hi;omega),he⟩;rw[za,a1.length_eq,Xv,Wm];omega)
      refine⟨_,rfl,yz ⟨_,rfl,.ref (e_ s1),_,I6,rfl,?_⟩⟩;refine po'.lnew a7 ?_ tu.2.1;rw[<-G1 (b:=b) bu hsh xh (p:=p) (by rw[sd,um];show a1) a2];show(ry.mono pp tt).pick (λi hi=>by have:=bt i hi;omega)
    ·cases es
   ·cases es
variable{c4 kp:Pos}{kf:Str}
section
variable{q:r_}{jb:Nat}{f:Fn}{p rp dt:Pos}
theorem G2{Q:VK}(h:rd C (tO f b me) σ H Q):Qr (rd C me) Oh σ H λvs H1=>∃x,vs=[x]/\r1 C (mS f b) x H1 Q:=by let⟨φ,δ,h,rh,re,po⟩:=h;refine⟨φ,δ,h,rh,re,(post.bind po).imp ?_⟩;rintro v H1 ⟨φ1,x,h1,p1,t1,ab,af,q1⟩;show⟨v,rfl,φ1,h1,x,ab,af,q1⟩
theorem Jy{k:Nat}(D:Def C.K X.mg kf st q fd pn)(G:M_ q fd pn (spM C 1 f))(he:C_ e me)(hb:("sorted" : Str)∈C.bs)(hj:j+2<=k:=by decide)(hg:Gl X "sorted" := by rfl)(pw:Gl X kf:=by rfl)(hdk:(kf == ("__debug__" : Str))=false:=by decide)(d0:zw [e] X.env=(false,X_ 0)::zw [] X.env:=by rfl)(qa:Ze (zw [e] X.env)=(false,X_ 0)::Ze (zw [] X.env):=by rfl)(ba:(Ze (zw [e] X.env)).any (·.1)=false:=by rfl):
  C_ (.Call (.Name "sorted" p) [e] [⟨a_ "key",.Name kf kp,c4⟩] pos) (tO f false me):=λc FR s σ H Q I h=>by
 refine W4 (sT I hg (c.bn _ hb) PyProof.Rows.Boot.«sorted» ?_ nofun nofun);refine callWith_kw (thn (DL (he c) Hq d0 pos FR s σ H _ I (G2 h)) λus s1 hh=>?_) qa ba;let⟨vs,H1,I1,rv,x,rfl,r⟩:=hh;let⟨u,rfl,ru⟩:=vals1 rv;refine kws_cons (nS I1 pw D.mg (kws_nil ?_) hdk)
 change I_ (call (.builtin "sorted") [u] [(WM "key",.ref q)]) _ _ _
 show BD c D G hj (λv=>ksk_s1 _ _) (λv=>ksk_l1 _ _) (λv=>ksk_t1 _ _) I1 ru r
theorem MQ{k:Nat}(D:Def C.K X.mg kf st q fd pn)(G:M_ q fd pn (spM C 1 f))(he:C_ e me)(hb:("sorted" : Str)∈C.bs)(hj:j+2<=k:=by decide)(hg:Gl X "sorted" := by rfl)(pw:Gl X kf:=by rfl)(hdk:(kf == ("__debug__" : Str))=false:=by decide)(d0:zw [e] X.env=(false,X_ 0)::zw [] X.env:=by rfl)(qa:Ze (zw [e] X.env)=(false,X_ 0)::Ze (zw [] X.env):=by rfl)(ba:(Ze (zw [e] X.env)).any (·.1)=false:=by rfl):
  C_ (.Call (.Name "sorted" p) [e] [⟨a_ "key",.Name kf kp,c4⟩,⟨a_ "reverse",.Constant (.bool b) jb rp,dt⟩] pos) (tO f b me):=λc FR s σ H Q I h=>by
 refine W4 (sT I hg (c.bn _ hb) PyProof.Rows.Boot.«sorted» ?_ nofun nofun);refine callWith_kw (thn (DL (he c) Hq d0 pos FR s σ H _ I (G2 h)) λus s1 hh=>?_) qa ba;let⟨vs,H1,I1,rv,x,rfl,r⟩:=hh;let⟨u,rfl,ru⟩:=vals1 rv;refine kws_cons (nS I1 pw D.mg (kws_cons (Constant_bool (kws_nil ?_))) hdk)
 change I_ (call (.builtin "sorted") [u] [(WM "key",.ref q),(WM "reverse",.bool b)]) _ _ _
 show BD c D G hj (λv=>ksk_s2 _ _ _) (λv=>ksk_l2 _ _ _) (λv=>ksk_t2 _ _ _) I1 ru r
end
open PySem
section
variable{α:Type}(key:α->Zg 0)
def G3(x:α):x_ α->x_ α
 |[]=>[x]
 |y::ys=>if cD (key y) (key x)=true then y::G3 x ys else x::y::ys
def kW:x_ α->x_ α
 |[]=>[]
 |x::xs=>G3 key x (kW xs)
variable{key}
theorem Dq(x:α):∀ys,(G3 key x ys).Perm (x::ys)
 |[]=>.refl _
 |y::ys=>by
  unfold G3;split
  ·show((Dq x ys).cons y).trans (.swap x y ys)
  ·show .refl _
theorem tQ:∀xs,(kW key xs).Perm xs
 |[]=>.refl _
 |x::xs=>(Dq x _).trans ((tQ xs).cons x)
theorem G4(f:α->PV)(x:α):∀ys:x_ α,zT (key x,f x) (ys.map λy=>(key y,f y))=(G3 key x ys).map λy=>(key y,f y)
 |[]=>rfl
 |y::ys=>by
  rw[zg];unfold zT G3;dsimp only;split
  ·rw[G4 f x ys];rfl
  ·rfl
theorem yE(f:α->PV):∀xs:x_ α,kU (xs.map λy=>(key y,f y))=(kW key xs).map λy=>(key y,f y)
 |[]=>rfl
 |x::xs=>by rw[zg];unfold kU kW;rw[yE f xs,G4]
theorem Ed(f:α->PV){xs:x_ α}(hs:∀x∈xs,shape (key x)=S):(kW key xs).Pairwise (λa b=>cD (key b) (key a)=false):=by
 let h:=mQ (S:=S) (xs:=xs.map λy=>(key y,f y)) (λy hy=>by let⟨x,hx,rfl⟩:=zm.mp hy;show hs x hx);rw[yE,Xi]at h;show h
theorem G5{β γ:Type}(f:α->β)(g:α->γ):∀xs:x_ α,(xs.map f).zip (xs.map g)=xs.map λx=>(f x,g x)
 |[]=>rfl
 |x::xs=>by simp[G5 f g xs]
theorem G6{f:α->PV}{xs:x_ α}(h1:xs.length<64)(h3:pP (xs.map key)=true)(h4:(xs.map key).Nodup):sortBy b ((xs.map key).map tP) (xs.map f)=a_ ((PySem.W.katRev b (kW key xs)).map f):=by
 rw[KF (ke h1) (by simp) h3 h4,G5,yE];cases b with
 |false=>
  change a_ (((kW key xs).map λy=>(key y,f y)).map Prod.snd)=a_ ((kW key xs).map f)
  rw[Wp];rfl
 |true=>
  change a_ ((((kW key xs).map λy=>(key y,f y)).reverse).map Prod.snd)=a_ ((kW key xs).reverse.map f)
  rw[<-List.map_reverse,Wp];rfl
theorem Ie{f:Fn}{b:Bool}{emb:α->PV}{ys zs:Y9 0}{Q:PV->PH->Prop}:∀(r done:x_ α)(h:PH),(∀d∈r,∀h(Q:PV->PH->Prop),(∀h',P2 h'->Q (tP (key d)) h')->(f [emb d] h).W Q)->
  sortBy b (((done++r).map key).map tP) ys=a_ zs->(∀h',P2 h'->Q (.ref h'.length) (h'++[.lst zs]))->(mF f b ys (r.map emb) ((done.map key).map tP) h).W Q
 |[],done,h,_,hs,k=>by rw[Xk]at hs;simp only[List.map_nil,mF,hs,CA];show k h (Ext.refl h)
 |x::r,done,h,hf,hs,k=>by
  rw[zg];unfold mF;rw[HU];refine hf x y8 h _ λh1 x1=>?_;let e:(done.map key).map tP++[tP (key x)]=((done++[x]).map key).map tP:=by simp
  rw[e];show Ie r (done++[x]) h1 (λd hd=>hf d (y9 _ hd)) (by rw[Yt];show hs) λh' x2=>k h' (Z7 0)
theorem Jz{f:Fn}{emb:α->PV}{xs:x_ α}{x:PV}{Q:PV->PH->Prop}(e:mR x h=a_ (xs.map emb))(h1:xs.length<64)(h3:pP (xs.map key)=true)(hs:∀x∈xs,shape (key x)=S)(h4:(xs.map key).Nodup)(hf:∀d∈xs,∀h(Q:PV->PH->Prop),(∀h',P2 h'->Q (tP (key d)) h')->(f [emb d] h).W Q)(k:∀(os:x_ α) h',P2 h'->os.Perm xs->os.Pairwise (λp q=>(if b then cD (key p) (key q) else cD (key q) (key p))=false)->Q (.ref h'.length) (h'++[.lst (os.map emb)])):(mS f b x h).W Q:=by
 unfold mS;rw[e];dsimp only;rw[if_pos (ke h1)];refine Ie (key:=key) xs [] h hf (G6 h1 h3 h4) λh' hx=>k _ h' hx ?_ ?_
 ·cases b with
  |false=>exact tQ xs
  |true=>exact(List.reverse_perm _).trans (tQ xs)
 ·let hp:=Ed emb hs;cases b with
  |false=>exact hp
  |true=>
   change((kW key xs).reverse).Pairwise _
   rw[List.pairwise_reverse];show hp
end
@[simp]theorem T8{f:Fn}:tO f b m δ h=(m δ h).bind λx h1=>mS f b x h1:=(rfl)
theorem BE(e:h[n]?=a_ (.lst xs)):mR (.ref n) h=a_ xs:=by simp[mR,aZ,e]
theorem Dr(e:bX h n=a_ kvs):oC h n=a_ (kvs.map (·.2)):=by
 unfold bX at e;split at e
 ·rename_i q;cases e;simp[oC,q]
 ·rename_i q;cases e;simp[oC,q]
 ·cases e
theorem cH(e:bX h n=a_ kvs):∃o,h[n]?=a_ o/\dR (.ref n) h=true/\∀h',h'[n]?=a_ o->bX h' n=a_ kvs:=by
 unfold bX at e;split at e
 ·rename_i q;cases e;show⟨_,q,by simp[dR,q],λh' e=>by simp[bX,e]⟩
 ·rename_i q;cases e;show⟨_,q,by simp[dR,q],λh' e=>by simp[bX,e]⟩
 ·cases e
theorem dZ{h':PH}(x:P2 h')(e:bX h n=a_ kvs):bX h' n=a_ kvs:=by let⟨o,g,_,k⟩:=cH e;show k h' (x _ _ g)
theorem G7{d:Nat}(e:h[n]?=a_ (.vw 1 d))(e2:bX h d=a_ kvs):mR (.ref n) h=a_ (kvs.map (·.2)):=by
 let e1:aZ h n=b_:=by simp[aZ,e]
 simp only[mR,e1,Bx,e];show Dr e2
theorem P8{d:Nat}(e:bX h d=a_ kvs):FX (.ref d) [] h=.ok (.ref h.length) (h++[.vw 1 d]):=by simp[FX,Dr e]
theorem Ig(e:bX h n=a_ kvs)(hk:(PV.tup xs).ky 6=true)(hl:kvs.length<16777216):yB (.ref n) (.tup xs) z h=a_ (ZK (.dD (eK kvs (.tup xs) z))):=by
 let k1:(PV.tup xs).isKt=true:=hk;let dg:kvs.length<zf:=by rw[kH];show hl
 unfold yB;simp only[A7,k1,if_true,e];rw[if_pos dg]
theorem KG(e:bX h n=a_ kvs)(hk:(PV.tup xs).ky 6=true):jB (.tup xs) (.ref n) h=.ok (.bl (!(Zk (.tup xs)).isSome)) h:=by
 let k1:(PV.tup xs).isKt=true:=hk;have:lR (.tup xs) (.ref n) h=a_ (Zk (.tup xs)):=by simp only[lR,k1,if_true,e,YU]
 unfold jB;rw[this]
theorem BF(e:bX h n=a_ kvs)(hk:(PV.tup xs).ky 6=true):lU (.tup xs) (.ref n) h=.ok (.bl (Zk (.tup xs)).isSome) h:=by
 let k1:(PV.tup xs).isKt=true:=hk;have:lR (.tup xs) (.ref n) h=a_ (Zk (.tup xs)):=by simp only[lR,k1,if_true,e,YU]
 unfold lU;rw[this]
theorem KH{kvs:x_ (Key×PV)}(e:h[n]?=a_ (.dK kvs))(hl:kvs.length<16777216):
  rS (.ref n) [.str x,z] h=match Zk (.inr x) with|some p=>.ok p h|none=>.ok z (ZK (.dK (eK kvs (.inr x) z))):=by
 let dg:kvs.length<zf:=by rw[kH];show hl
 unfold rS;simp only[A7,e];cases aP kvs (.inr x) with
 |some p=>rfl
 |none=>simp only[if_pos dg]
@[simp]theorem Sl:xY .non=true:=(rfl)
theorem Ext.setN{hX:PH}(x:P2 hX)(hn:h.length<=n):P2 (hX.set n o):=λm o' e=>by have:=(yy.mp e).1;rw[Wd ⋯];show x m o' e
def lV(f:Str)(p:PV):x_ (Str×PV)->x_ (Str×PV)
 |[]=>[(f,p)]
 |(g,x)::r=>if g=f then(g,p)::r else(g,x)::lV f p r
def pI(x:PV)(h:PH):y_ (Nat×Str×x_ (Str×PV)):=match x with
 |.ref n=>match h[n]? with
  |some (.ins c fs)=>a_ (n,c,fs)
  |_=>b_
 |_=>b_
def bM(f:Str):PV->PH->Rs PV:=λx h=>match pI x h with
 |some (_,_,fs)=>match fs.lookup f with
  |some p=>.ok p h
  |none=>.bad
 |none=>.bad
def zU(f:Str)(x y:PV)(h:PH):y_ PH:=match pI x h with
 |some (n,c,fs)=>if fs.length<1000 then a_ (ZK (.ins c (lV f y fs))) else b_
 |none=>b_
theorem MR{fs:x_ (Str×PV)}{ks:x_ (Str×V)}(r:ZG fs ks)(f:Str)(rv:p_ p v):ZG (lV f p fs) (mZ f v ks):=by
 unfold RKv at r⊢
 induction r with
 |nil=>exact .cons ⟨rfl,rv⟩ .nil
 | @cons a b as bs h t ih=>
  let⟨a1,a2⟩:=a;let⟨b1,b2⟩:=b;let e:a1=b1:=h.1;subst e;unfold lV mZ;by_cases z:a1=f
  ·rw[if_pos z,if_pos z];show .cons ⟨rfl,rv⟩ t
  ·rw[if_neg z,if_neg z];show .cons h ih
theorem tR{fs:x_ (Str×PV)}{ks:x_ (Str×V)}(r:ZG fs ks)(f:Str):(fs.lookup f=b_/\ks.lookup f=b_)\/∃p v,fs.lookup f=a_ p/\ks.lookup f=a_ v/\p_ p v:=by
 unfold RKv at r
 induction r with
 |nil=>exact .inl ⟨rfl,rfl⟩
 | @cons a b as bs h t ih=>
  let⟨a1,a2⟩:=a;let⟨b1,b2⟩:=b;let e:a1=b1:=h.1;subst e;simp only[zx];cases z:(f == a1) with
  |true=>exact .inr ⟨a2,b2,rfl,rfl,h.2⟩
  |false=>exact ih
theorem vP{x:PV}{c:Str}{fs:x_ (Str×PV)}(rh:E_ h)(rv:p_ x v)(e:pI x h=a_ (n,c,fs)):
  ∃a ca dx ks,x=.ref n/\v=.ref a/\φ[n]?=a_ a/\h[n]?=a_ (.ins c fs)/\C.cl c=a_ ca/\H a=a_ (.ins ca dx ks)/\ZG fs ks:=by
 unfold pI at e;cases x with
 |ref m=>
  let⟨a,rfl,ha⟩:=rv;dsimp only at e;split at e
  ·rename_i c' si q;cases e
   let⟨ca,dx,ks,h1,h2,h3⟩:=rh.at' _ a _ ha q;show⟨a,ca,dx,ks,rfl,rfl,ha,q,h1,h2,h3⟩
  ·cases e
 |_=>cases e
def iA(C:MC)(f:Str):Prop:=∀c a,C.cl c=a_ a->Cls C.K a/\pU C.K a f
variable{h3:PH}{mv:Me}{value:v_}
section
variable{o:v_}{f:Str}{m5:Pos}
theorem fC{k:Nat}(hF:iA C f)(he:C_ e m)(hb:XF e f X.env (X_ 0)=X_ 0:=by rfl):C_ (.Attribute e f pos) (mUn (bM f) m):=λc=>
 (Rf (he c) hb).imp λσ H Q h=>by
  let⟨φ,δ,h,rh,re,p⟩:=h;refine⟨φ,δ,h,rh,re,(post.bind p).imp ?_⟩;rintro v H1 ⟨φ1,x,h1,p1,t1,ab,af,q1⟩;unfold bM at q1;cases ei:pI x h1 with
  |none=>rw[ei]at q1;show q1.elim
  |some z=>
   let⟨n,cn,fs⟩:=z;rw[ei]at q1;dsimp only at q1;let⟨a,ca,dx,ks,rfl,rfl,ha,hh,hc,hH,rk⟩:=vP ab af ei;let⟨cl,na⟩:=hF cn ca hc;rcases tR rk f with⟨l1,_⟩|⟨y,u,l1,l2,ru⟩
   ·rw[l1]at q1;show q1.elim
   ·rw[l1]at q1;show⟨a,ca,dx,ks,u,rfl,hH,by rw[c.K];show cl,by rw[c.K];show na,l2,q1.val ab ru⟩
def qI(f:Str)(mo mv:Me):Ms:=λδ h=>(mv δ h).fl λy h1=>(mo δ h1).fl λx h2=>match zU f x y h2 with
 |some h3=>.nx δ h3
 |none=>.bad
theorem P9{k:Nat}{x y:PV}{u:V}{D:Ends}(c:Y4 X)(hF:iA C f)(rh:E_ h)(re:Y7 0)(rx:p_ x v)(ry:p_ y u)(es:zU f x y h=a_ h3)(q:cY C φ H (.nx δ h3) D):
  ∃a ca dx ks,v=.ref a/\H a=a_ (.ins ca dx ks)/\Cls X.K ca/\pU X.K ca f/\ks.length<1000/\D.nx σ (R_ a (.ins ca dx (mZ f u ks)))/\∃n cn fs,pI x h=a_ (n,cn,fs)/\C.cl cn=a_ ca:=by
 unfold zU at es;cases ei:pI x h with
 |none=>rw[ei]at es;cases es
 |some z=>
  let⟨n,cn,fs⟩:=z;rw[ei]at es;dsimp only at es;split at es
  ·rename_i hl;cases es
   let⟨a,ca,dx,ks,rfl,rfl,ha,hh,hc,hH,rk⟩:=vP rh rx ei;let⟨cl,na⟩:=hF cn ca hc;let kp:Zu (R_ a (.ins ca dx (mZ f u ks))):=Kp.upd (by rw[hH];trivial);refine⟨a,ca,dx,ks,rfl,hH,by rw[c.K];show cl,by rw[c.K];show na,by rw[<-Wt rk];show hl,?_⟩;refine⟨q φ σ _ zc kp (rh.write ha (by rw[hH];trivial) ⟨ca,dx,_,hc,aX,?_⟩) (re.mono zc kp),n,cn,fs,rfl,hc⟩;show(MR rk f ry).mono zc kp
  ·cases es
theorem zV{k:Nat}(hF:iA C f)(hv:C_ value mv)(ho:C_ o mo)(hs:swapsWith value (a_ (.Attribute o f pos')) pos.line X.env=pure false:=by rfl):ZT (.Assign [.Attribute o f pos'] value pos) (qI f mo mv):=λc=>
 (Rg (ho c) (hv c) hs).imp λD σ H h=>by
  let⟨φ,δ,h,rh,re,p⟩:=h;refine⟨φ,δ,h,rh,re,(post.fl p).imp ?_⟩;rintro u H1 ⟨φ1,y,h1,p1,t1,ab,af,q1⟩;refine⟨φ1,δ,h1,ab,S_ 0,(post.fl q1).imp ?_⟩;rintro v H2 ⟨φ2,x,h2,p2,t2,aj,bo,q2⟩;cases es:zU f x y h2 with
  |none=>rw[es]at q2;show q2.elim
  |some h3=>rw[es]at q2;let⟨a,ca,dx,ks,g1,g2,g3,g4,g5,g6,_⟩:=P9 c hF aj ((S_ 0).mono p2 t2) bo (af.mono p2 t2) es q2;show⟨a,ca,dx,ks,g1,g2,g3,g4,g5,g6⟩
end
def MS(C:MC)(X:Cx)(k:Nat)(m:Str)(n:Nat)(tb:Str->y_ Fn):Prop:=∀c a f,C.cl c=a_ a->tb c=a_ f->
 ∃g fd ps j,Cls C.K a/\DK C.K a m g/\j<=k/\M_ g fd ps (spM C (n+1) f)/\Binds C.K fd ps []
theorem eW{k:Nat}{m:Str}:MS C X k m n (λ_=>b_):=λ_ _ _ _ h=>nomatch h
variable{tb:Str->y_ Fn}
theorem cR{k:Nat}{m c:Str}{g:r_}{f:Fn}(hc:C.cl c=a_ a)(hC:Cls C.K a)(me:DK C.K a m g)(hj:j<=k)(G:M_ g fd ps (spM C (n+1) f))(B:Binds C.K fd ps [])(r:MS C X k m n tb):
  MS C X k m n (λz=>if z=c then a_ f else tb z):=λc' a' f' h1 h2=>by
 let cz:(if c'=c then a_ f else tb c')=a_ f':=h2;by_cases e:c'=c
 ·subst e;rw[hc]at h1;cases h1
  rw[Zc 0]at cz;cases cz
  show⟨g,fd,ps,j,hC,me,hj,G,B⟩
 ·rw[Zs 0]at cz;show r c' a' f' h1 cz
def eN(m:Str)(n:Nat)(tb:Str->y_ Fn)(mo:Me)(ms:Ma):Me:=λδ h=>(mo δ h).bind λx h1=>match pI x h1 with
 |some (_,c,fs)=>match tb c,fs.lookup m with
  |some f,b_=>(ms δ h1).bind λps h2=>if ps.length=n then f (x::ps) h2 else .bad
  |_,_=>.bad
 |none=>.bad
theorem kX{k:Nat}{o:v_}{m:Str}{pl:Sem Bool}(hM:MS C X k m n tb)(ho:C_ o mo)(ha:SA C k X (e::es) ms)(d0:zw (e::es) X.env=(false,X_ 0)::U_ 0:=by rfl)(ba:(Ze (U_ 0)).any (·.1)=false:=by rfl)(ht:eval (.Call (.Attribute o m apos) (e::es) [] pos) X.env=(do
   let ov <-ZM 0
   standAt apos.atName
   let (f,first) <-holding [ov] (getMethod ov m pl)
   callWith pos f first (Ze (zw (e::es) X.env)) (backToKw pos (keywordEach [] X.env))):=by rfl):
  C_ (.Call (.Attribute o m apos) (e::es) [] pos) (eN m n tb mo ms):=λc FR s σ H Q I h=>by
 let⟨φ,δ,h,rh,re,p⟩:=h
 refine PySem.W.methodCall_KW (pl:=pl) (thn (ho c FR s σ H _ I ⟨φ,δ,h,rh,re,post.bind p⟩) λu s1 hh=>?_) ht
 let⟨v,H1,I1,ru,φ1,x,h1,p1,t1,ab,af,q1⟩:=hh
 cases ei:pI x h1 with
 |none=>rw[ei]at q1;exact q1.elim
 |some z=>
  let⟨n',cn,fs⟩:=z
  rw[ei]at q1
  dsimp only at q1
  let⟨a,ca,dx,ks,rfl,rfl,hφ,hh,hc,hH,rk⟩:=vP ab af ei
  cases et:tb cn with
  |none=>rw[et]at q1;exact q1.elim
  |some f=>
   rw[et]at q1
   rcases tR rk m with⟨l1,l2⟩|⟨y,u',l1,_⟩
   ·rw[l1]at q1
    dsimp only at q1
    let⟨g,fd,ps,j,cl,me,hj,F,bd⟩:=hM cn ca f hc et
    have ql:Cls X.K ca:=by rw[c.K];exact cl
    have lz:DK X.K ca m g:=by rw[c.K];exact me
    have F':H_ CX0 j g fd ps (spM C (n+1) f):=by rw[c.K];exact F
    have jc:ZA []:=by rw[c.K];exact bd
    cases ru
    refine AY I1 hH ql lz l2 ?_
    refine PySem.W.callWith_K (first:=[.ref a]) (h₀:=X.base) I.ok.mod.kin lz.kp (thn (ha c pos FR s1 σ H1 _ I1 ⟨φ1,δ,h1,ab,S_ 0,postA.bind q1⟩) λus s2 h2=>?_) d0 ba
    let⟨vs,H2,I2,r2,φ2,zs,h3,p2,t2,aj,bo,q2⟩:=h2
    let⟨hl,q2⟩:=q2.ite
    refine⟨I2.kIn,?_⟩
    exact DM (us:=.ref a::us) (vs:=.ref a::vs) F' (c.room.mono hj) jc .nil CV I2 (.cons rfl r2) ⟨φ2,h3,.ref n'::zs,aj,⟨⟨a,rfl,jA p2 hφ⟩,(by show RVs C φ2 H2 zs (vs++[]);rw[Xk];exact bo)⟩,by simp[hl],q2⟩
   ·rw[l1]at q1;exact q1.elim
theorem oE{k:Nat}{o:v_}{m:Str}{pl:Sem Bool}(hM:MS C X k m 0 tb)(ho:C_ o mo)(ht:eval (.Call (.Attribute o m apos) [] [] pos) X.env=(do
   let ov <-ZM 0
   standAt apos.atName
   let (f,first) <-holding [ov] (getMethod ov m pl)
   callWith pos f first (Ze (zw [] X.env)) (backToKw pos (keywordEach [] X.env))):=by rfl):
  C_ (.Call (.Attribute o m apos) [] [] pos) (eN m 0 tb mo aE):=λc FR s σ H Q I h=>by
 let⟨φ,δ,h,rh,re,p⟩:=h
 refine PySem.W.methodCall_KW (pl:=pl) (thn (ho c FR s σ H _ I ⟨φ,δ,h,rh,re,post.bind p⟩) λu s1 hh=>?_) ht
 let⟨v,H1,I1,ru,φ1,x,h1,p1,t1,ab,af,q1⟩:=hh
 cases ei:pI x h1 with
 |none=>rw[ei]at q1;exact q1.elim
 |some z=>
  let⟨n',cn,fs⟩:=z
  rw[ei]at q1
  dsimp only at q1
  let⟨a,ca,dx,ks,rfl,rfl,hφ,hh,hc,hH,rk⟩:=vP ab af ei
  cases et:tb cn with
  |none=>rw[et]at q1;exact q1.elim
  |some f=>
   rw[et]at q1
   rcases tR rk m with⟨l1,l2⟩|⟨y,u',l1,_⟩
   ·rw[l1]at q1
    dsimp only at q1
    let⟨g,fd,ps,j,cl,me,hj,F,bd⟩:=hM cn ca f hc et
    have ql:Cls X.K ca:=by rw[c.K];exact cl
    have lz:DK X.K ca m g:=by rw[c.K];exact me
    have F':H_ CX0 j g fd ps (spM C (0+1) f):=by rw[c.K];exact F
    have jc:ZA []:=by rw[c.K];exact bd
    cases ru
    refine AY I1 hH ql lz l2 ?_
    have q2:post C φ1 H1 (f [.ref n'] h1) Q:=q1
    exact PySem.W.callWith_K0 (first:=[.ref a]) I1.kIn lz.kp (DM (us:=[.ref a]) (vs:=[.ref a]) F' (c.room.mono hj) jc .nil CV I1 (.cons rfl .nil) ⟨φ1,h1,[.ref n'],ab,⟨⟨a,rfl,hφ⟩,trivial⟩,rfl,q2⟩)
   ·rw[l1]at q1;exact q1.elim
def vQ(cn:Str)(n:Nat)(f:Fn)(ms:Ma):Me:=λδ h=>(ms δ h).bind λps h1=>if ps.length=n then(f (.ref h1.length::ps) (h1++[.ins cn []])).bind λv h2=>(match v with
 |.non=>.ok (.ref h1.length) h2
 |_=>.bad) else .bad
variable{ca:r_}{cn:Str}{fn:Fn}{zs:Y9 0}
theorem JA{Q:VK}(hc:C.cl cn=a_ ca)(rh:E_ h)(rv:A_ zs vs)(q:O_ (if zs.length=n then(fn (.ref h.length::zs) (h++[.ins cn []])).bind λv h2=>(match v with|.non=>Rs.ok (.ref h.length) h2|_=>.bad) else .bad) Q):
  ∀y dx,H y=b_->H dx=b_->dx≠y->spM C (n+1) fn (.ref y::(vs++[])) (upd (R_ dx (.own y)) y (.ins ca dx [])) (λv H2=>v=.non/\Q (.ref y) H2) E0:=λy dx hy hd ne=>by
 let⟨hl,q⟩:=q.ite;let e9:(R_ dx (.own y)) y=b_:=by rw[aQ (Yw ne)];show hy
 let k1:Zu (R_ dx (.own y)):=Kp.new hd;let k2:Kp (R_ dx (.own y)) (upd (R_ dx (.own y)) y (.ins ca dx [])):=Kp.new e9;let aj:RH C (φ++[y]) (upd (R_ dx (.own y)) y (.ins ca dx [])) (h++[.ins cn []]):=(rh.aside hd).new e9 ⟨ca,dx,[],hc,aX,.nil⟩;let se:RV C (φ++[y]) (upd (R_ dx (.own y)) y (.ins ca dx [])) (.ref h.length) (.ref y):=⟨y,rfl,by rw[<-rh.len];simp⟩;refine⟨φ++[y],h++[.ins cn []],.ref h.length::zs,aj,⟨se,by rw[Xk];show rv.mono (Wx _ _) (k1.trans k2)⟩,by simp[hl],?_⟩;refine(post.bind (post.weak (Wx _ [y]) (k1.trans k2) q)).imp ?_;rintro v H2 ⟨φ2,pv,h2,p2,t2,ax,rv3,q3⟩;cases pv with
 |non=>cases rv3;show⟨rfl,q3.val ax (se.mono p2 t2)⟩
 |_=>exact q3.elim
theorem MT{k:Nat}{f:r_}{p:Pos}(hc:C.cl cn=a_ ca)(M:Mk C.K ca f)(F:M_ f fd ps (spM C (n+1) fn))(hm:X.mg x=c_ ca)(bd:Binds C.K fd ps [])(ha:SA C k X (e::es) ms)(hj:j+1<=k:=by decide)(hg:Gl X x:=by rfl)(bg:(x == ("__debug__" : Str))=false:=by decide)(he:zw (e::es) X.env=(false,X_ 0)::U_ 0:=by rfl)(ba:(Ze (U_ 0)).any (·.1)=false:=by rfl):
  C_ (.Call (.Name x p) (e::es) [] pos) (vQ cn n fn ms):=λc=>by
 let M':Mk X.K ca f:=by rw[c.K];show M
 let F':H_ CX0 j f fd ps (spM C (n+1) fn):=by rw[c.K];show F
 let jc:ZA []:=by rw[c.K];show bd
 refine(Oj M' F' (c.room.mono hj) hg hm jc .nil CV (ha c) bg he ba).imp λσ H Q h=>?_;let⟨φ,δ,h,rh,re,po⟩:=h;refine⟨φ,δ,h,rh,re,(postA.bind po).imp ?_⟩;rintro vs H1 ⟨φ1,zs,h1,p1,t1,ab,af,q1⟩;show JA hc ab af q1
theorem JB{k:Nat}{f:r_}{p:Pos}(hc:C.cl cn=a_ ca)(M:Mk C.K ca f)(F:M_ f fd ps (spM C (0+1) fn))(hm:X.mg x=c_ ca)(bd:Binds C.K fd ps [])(hj:j+1<=k:=by decide)(hg:Gl X x:=by rfl)(bg:(x == ("__debug__" : Str))=false:=by decide):C_ (.Call (.Name x p) [] [] pos) (vQ cn 0 fn aE):=λc=>by
 let M':Mk X.K ca f:=by rw[c.K];show M
 let F':H_ CX0 j f fd ps (spM C (0+1) fn):=by rw[c.K];show F
 let jc:ZA []:=by rw[c.K];show bd
 refine(Ly M' F' (c.room.mono hj) hg hm jc .nil CV bg).imp λσ H Q h=>?_;let⟨φ,δ,h,rh,re,po⟩:=h;show JA (zs:=[]) hc rh trivial po
def nG(x y v:PV)(h:PH):y_ PH:=match x,y with
 |.ref n,.int i=>match dA h n with
  |some xs=>match ixN xs.length i with
   |some j=>a_ (ZK (.lst (xs.set j v)))
   |none=>b_
  |none=>yB x y v h
 |_,_=>yB x y v h
def qJ(mv mo mi:Me):Ms:=λδ h=>(mv δ h).fl λv h1=>(mo δ h1).fl λx h2=>(mi δ h2).fl λy h3=>match nG x y v h3 with
 |some h4=>.nx δ h4
 |none=>.bad
theorem Ih{k:Nat}{h':PH}{pv:PV}{x:V}(c:Y4 X)(rh:E_ h)(rx:p_ px x)(ry:p_ py y)(rv:p_ pv v)(e:nG px py pv h=a_ h'){Q:jn Unit}(I:N_ s)(iw:Zr xu)(bw:Z4 yu)(ib:ZF vu)(q:∀s' H',h_ H' s'->Zu H'->RH C φ H' h'->Q () s'):wpAny (g_ X) X.A (setItem xu yu vu) Q X.xe s:=by
 unfold nG at e;split at e
 ·rename_i n i;split at e
  ·rename_i xs el;split at e
   ·rename_i j ej;cases e
    let⟨a,rfl,ha⟩:=rx;cases ry
    let⟨ws,hH,cf⟩:=Y0 (jE el);refine thn (set_list FR s σ H (.ref a) (.int i) v xu yu vu (λH'=>H'=R_ a (.lst (ws.set j v))) I iw bw ib ⟨a,ws,i,j,rfl,rfl,hH,by rw[<-cf.length];show ej,rfl⟩) ?_;rintro _ s' ⟨H',I',rfl⟩;refine q s' _ I' (Kp.lst hH) (rh.write ha (by rw[hH];trivial) ⟨_,aX,(RVs.set rv j cf).mono zc (Kp.lst hH)⟩)
   ·cases e
  ·show Dl c rh rx ry rv e I iw bw ib q
 ·show Dl c rh rx ry rv e I iw bw ib q
theorem tS{k:Nat}{o i:v_}{mi:Me}(hv:C_ value mv)(ho:C_ o mo)(hi:C_ i mi)(hs:swapsWith value (a_ (.Subscript o i pos')) pos.line X.env=pure false:=by rfl):
  ZT (.Assign [.Subscript o i pos'] value pos) (qJ mv mo mi):=λc FR s σ H D I ⟨φ,δ,h,rh,re,p⟩=>by
 refine wpAny_Assign_Subscript (thn (hv c FR s σ H _ I ⟨φ,δ,h,rh,re,post.fl p⟩) ?_) hs;rintro vu s1 ⟨v,H1,I1,ib,φ1,pv,h1,p1,t1,ab,af,q1⟩;refine thn (ho c FR s1 σ H1 _ I1 ⟨φ1,δ,h1,ab,S_ 0,post.fl q1⟩) ?_;rintro xu s2 ⟨x,H2,I2,iw,φ2,px,h2,p2,t2,aj,bo,q2⟩;refine thn (hi c FR s2 σ H2 _ I2 ⟨φ2,δ,h2,aj,(S_ 0).mono p2 t2,post.fl q2⟩) ?_;rintro yu s3 ⟨y,H3,I3,bw,φ3,py,h3,p3,t3,ax,rv3,q3⟩;cases e:nG px py pv h3 with
 |none=>rw[e]at q3;show q3.elim
 |some h4=>rw[e]at q3;show Ih c ax (bo.mono p3 t3) rv3 ((af.mono p2 t2).mono p3 t3) e I3 iw bw ib λs' H' I' kp a7=>⟨σ,H',I',q3 φ3 σ H' zc kp a7 ((((S_ 0).mono p2 t2).mono p3 t3).mono zc kp)⟩
theorem BG{c:Str}{fs:x_ (Str×PV)}(e:h[n]?=a_ (.ins c fs)):pI (.ref n) h=a_ (n,c,fs):=by simp[pI,e]
theorem jC{c f:Str}{fs:x_ (Str×PV)}(e:h[n]?=a_ (.ins c fs))(l:fs.lookup f=a_ p):bM f (.ref n) h=.ok p h:=by simp[bM,BG e,l]
theorem jG{c f:Str}{fs:x_ (Str×PV)}(e:h[n]?=a_ (.ins c fs))(l:fs.length<1000):zU f (.ref n) p h=a_ (ZK (.ins c (lV f p fs))):=by simp[zU,BG e,l]
@[simp]theorem Sm{E:FE}{f:Str}:(qI f mo mv δ h).W E=(mv δ h).W λy h1=>(mo δ h1).W λx h2=>∃h3,zU f x y h2=a_ h3/\E.nx δ h3:=by
 unfold qI;rw[HV];congr 1;funext y h1;rw[HV];congr 1;funext x h2;cases e:zU f x y h2 <;> simp
@[simp]theorem BH{f:Fn}:vQ cn n f ms δ h=(ms δ h).bind λps h1=>if ps.length=n then(f (.ref h1.length::ps) (h1++[.ins cn []])).bind λv h2=>(match v with|.non=>.ok (.ref h1.length) h2|_=>.bad) else .bad:=(rfl)
variable{mm:Str}
theorem bS{k:Nat}{c:Str}{fs:x_ (Str×PV)}{f:Fn}(e:mo δ h=.ok (.ref k) h1)(g:h1[k]?=a_ (.ins c fs))(t:tb c=a_ f)(l:fs.lookup mm=b_):
  eN mm n tb mo ms δ h=(ms δ h1).bind λps h2=>if ps.length=n then f (.ref k::ps) h2 else .bad:=by
 unfold eN;rw[e,Rs.bind_ok,BG g];simp only[t,l]
@[simp]theorem VH{E:FE}{mi:Me}:(qJ mv mo mi δ h).W E=(mv δ h).W λv h1=>(mo δ h1).W λx h2=>(mi δ h2).W λy h3=>∃h4,nG x y v h3=a_ h4/\E.nx δ h4:=by
 unfold qJ;rw[HV];congr 1;funext v h1;rw[HV];congr 1;funext x h2;rw[HV];congr 1;funext y h3;cases e:nG x y v h3 <;> simp
theorem boot_reversed:XD "reversed" = a_ (.type "reversed"):=by first|rfl|decide +kernel|kernel_rfl
theorem KI{es:Array Yk}(hT:s.TypeIs (.ref dc) "dict")(hd:(dc == WL)=false)(h1:Zq 0=a_ oc)(h2:oc.data=.dict es ep)(q:Q (.ref (e_ s)) {s with heap:=s.heap.push {cls:=.type "dict_keyiterator",data:=.fields #[.ref dc,.int 0 0,.int es.size 0,.int ep 0]} }):B_ (pyIter (.ref dc)) Q E s:=by
 refine wpAny_pyIter_slot hT F.slot_dict_iter (Ws F.slot_dict_iter hT F.entry_dict_iter ?_ (F.args_dict_iter_1 _));unfold Builtin.«dict.__iter__»;refine yx ?_;unfold Builtin.Dict.dictSlotNone;refine yx (XM hT ?_)
 change I_ (pure (Wh dc)) _ _ s
 refine yz ?_
 change I_ (Xm dc >>= _) _ _ s
 unfold Xm;rw[if_neg (by rw[hd];show zj)];refine yx (yz ?_);refine yx (WJ h1 h2 ?_);refine yx (Xl h1 h2 ?_);refine yx (We (yz ⟨_,rfl,"dict_keyiterator",_,⟨_,ZL 0,rfl⟩,W3.lookup,?_⟩));simpa[rawInt] using q
theorem MU{es:Array Yk}{Q:y_ qe->q_->Prop}(hI:s.heap.IsKeyIter it dc i es.size ep)(h1:Zq 0=a_ oc)(h2:oc.data=.dict es ep)(ai:i<es.size)(q:∀h',h'.IsKeyIter it dc (i+1) es.size ep->WX it s.heap h'->Q (a_ es[i].key) {s with heap:=h'}):B_ (pyNext (.ref it)) Q E s:=by
 let⟨oi,g1,g2,g3⟩:=id hI;unfold pyNext;refine yx (Yu (WE (name:=WM "__next__") hI.typeIs W3 (Ws W3 hI.typeIs F.entry_dict_keyiterator_next ?_ (F.args_dict_keyiterator_next_1 _))));refine yx (yz (yx (yx ?_)))
 first|refine yx (Xp hI.typeIs (yz ?_))|refine yx (X3 hI.typeIs (yz ?_))
 refine yx (YC g1 g3 ?_);rw[show Wo "dict_keyiterator" = false by decide];simp only[Ww,if_false]
 change I_ (if(Wh dc == zo)=true then _ else _) _ _ s
 rw[if_neg (show ¬ ((Wh dc == zo)=true) from zj)]
 refine yx (yz (yx (WJ h1 h2 ?_)));rw[if_neg (show ¬ _ by simp)];refine yx (yz (yx (Xl h1 h2 ?_)));rw[if_neg (show ¬ _ by simp)];refine yz ?_;simp only[show ¬ ((i:Int)<0) by omega,if_false,Xw,Xj ai];refine yx ?_
 first|refine yx (Xp hI.typeIs (yz ?_))|refine yx (X3 hI.typeIs (yz ?_))
 refine yx (wpAny_isOneOf_keyiter hI.typeIs (show I_ (setField (.ref it) 1 (rawInt ((i:Int)+1)) >>= _) _ _ s from yx (Yd g1 g3 (by simp) ?_)))
 let gp:(Z2 (Xr (·.setIfInBounds 1 (rawInt ((i:Int)+1))))).IsKeyIter it dc (i+1) es.size ep:=⟨_,W1 _ g1 (Yp (XN g3 _)),(Obj.cls_mapFields ..).trans g2,by rw[XN g3];simp[rawInt]⟩;let iz:({s with heap:=Z2 (Xr (·.setIfInBounds 1 (rawInt ((i:Int)+1))))}:q_).TypeIs (.ref it) "dict_keyiterator" := gp.typeIs;refine yx (WV (yx (wpAny_isOneOf_keyiter iz ?_)))
 change I_ (pure es[i].key) _ _ _
 show yz (yz ⟨_,rfl,yz (q _ gp (Wa ..))⟩)
theorem MV{es:Array Yk}{Q:y_ qe->q_->Prop}(hh:A.handled=b_)(hI:s.heap.IsKeyIter it dc i es.size ep)(h1:Zq 0=a_ oc)(h2:oc.data=.dict es ep)(g9:es.size<=i)(q:∀h',Heap.ExtBut it s.heap h'->Q b_ {s with heap:=h'}):B_ (pyNext (.ref it)) Q E s:=by
 let⟨oi,g1,g2,g3⟩:=id hI;unfold pyNext;refine yx (Yu (WE (name:=WM "__next__") hI.typeIs W3 (Ws W3 hI.typeIs F.entry_dict_keyiterator_next ?_ (F.args_dict_keyiterator_next_1 _))));refine yx (yz (yx (yx ?_)))
 first|refine yx (Xp hI.typeIs (yz ?_))|refine yx (X3 hI.typeIs (yz ?_))
 refine yx (YC g1 g3 ?_);rw[show Wo "dict_keyiterator" = false by decide];simp only[Ww,if_false]
 change I_ (if(Wh dc == zo)=true then _ else _) _ _ s
 rw[if_neg (show ¬ ((Wh dc == zo)=true) from zj)]
 refine yx (yz (yx (WJ h1 h2 ?_)));rw[if_neg (show ¬ _ by simp)];refine yx (yz (yx (Xl h1 h2 ?_)));rw[if_neg (show ¬ _ by simp)];refine yz ?_;simp only[show ¬ ((i:Int)<0) by omega,if_false,Xw,XA g9];refine yx ?_
 first|refine yx (Xp hI.typeIs (yz ?_))|refine yx (X3 hI.typeIs (yz ?_))
 refine(show I_ (setField (.ref it) 0 .none >>= _) _ _ s from yx (Yd g1 g3 (by simp) ?_))
 refine(show I_ (newExc (.type "StopIteration") [] >>= _) _ _ _ from yx ?_);simp only[newExc,newTuple]
 refine yx (We (yx (m:=YD _ _) (wpAny_of_eq (a:=zo) (by first|rfl|(simp only[YD];rfl)) (We ?_ (by size_fits)))) (by size_fits))
 simp only[raiseNew];refine yx (wpAny_handled ?_);rw[show A.in1.handled=b_ from hh]
 refine yx (yz (wpAny_throw ?_));refine yx (wpAny_isInstance (T:="StopIteration") (b:=true) ⟨_,ZL 0,rfl⟩ isSubtype_stop ?_);show yz (q _ (((Wa ..).extBut.push _).push _))
section
variable{k:Nat}
def BI:Y9 0->y_ (Zw 0)
 |[]=>a_ []
 |.str x::r=>(BI r).map (x::·)
 |_::_=>b_
def jnd(sep:Str):Zw 0->Str
 |[p]=>p
 |l=>YX sep l
def P'(sep:Str)(l:Zw 0):Nat:=l.toArray.foldl (·+·.length+sep.length) 0
def Sn(x:PV)(_:PH):Bool:=match x with
 |.str _=>true
 |_=>false
def Ds:PV->Y9 0->PH->Rs PV:=λx ps h=>match x,ps with
 |.str sep,[.ref n]=>match dA h n with
  |some ys=>match BI ys with
   |some zs=>if P' sep zs<=zf/\(jnd sep zs).length<=zf then .ok (.str (jnd sep zs)) h else .bad
   |none=>.bad
  |none=>.bad
 |_,_=>.bad
theorem Dt{φ:x_ r_}{H:Hp}:∀{ys:Y9 0}{zs:Zw 0}{vs:x_ V}{us:ZE 0},BI ys=a_ zs->A_ ys vs->aS vs us->∃l:x_ (Str×Tok),us=strValues l/\l.map (·.1)=zs
 |[],zs,[],us,e,_,ru=>by cases ru;cases e;show⟨[],rfl,rfl⟩
 |p::ys,zs,v::vs,us,e,r,ru=>by
  cases ru with
  | @cons _ u _ us' h t=>
   cases p with
   |str x=>
    unfold BI at e;cases e2:BI ys with
    |none=>rw[e2]at e;cases e
    |some zs'=>
     rw[e2]at e;cases e
     let⟨l,rfl,rfl⟩:=Dt e2 r.2 t;let e1:v=.str x:=r.1;subst e1;let⟨tk,rfl⟩:=h;show⟨(x,tk)::l,rfl,rfl⟩
   |_=>cases e
 |[],_,_::_,_,_,r,_=>r.elim
 |_::_,_,[],_,_,r,_=>r.elim
theorem Pa(c:Y4 X):MtR X "str.join" (rM C Ds):=λFR s σ H x xs v us Q I rx rs h=>by
 let⟨φ,h,p,ps,rh,rp,fg,po⟩:=h;unfold Ds at po;split at po
 ·rename_i sep n;split at po
  ·rename_i ys hl;split at po
   ·rename_i zs hz;split at po
    ·rename_i hlen;let e1:x=.str sep:=rp;subst e1;let⟨tk,rfl⟩:=rx;let⟨v1,rfl,af⟩:=fg.one;let⟨a,rfl,ha⟩:=af;let⟨u,rfl,ru⟩:=vals1 rs;cases ru
     let hk:h[n]?=a_ (.lst ys):=by
      unfold dA at hl;split at hl
      ·rename_i q;cases hl;show q
      ·cases hl
     let⟨vs,hH,eu⟩:=Y0 hk;let⟨_,its,m,om,_,hx⟩:=I.lstM hH;let⟨l,rfl,el⟩:=Dt hz eu om;let hq:Q (.str (jnd sep zs)) H:=P1 rfl;let xj:Builtin.Str.tooLong ((l.map (·.1)).toArray.foldl (·+·.length+sep.length) 0)=false:=by
      rw[el]
      change decide (P' sep zs>zf)=false
      show decide_eq_false (by have:=hlen.1;omega)
     let ye:s.heap.IsList a (strValues l).toArray:=⟨_,hx,rfl,m,rfl⟩;refine call_meets PySem.F.slot_str_join (typeIs_str s sep tk) PySem.F.entry_str_join (PySem.F.args_str_join_2 _ _) (meets_str_join_list sep tk a l xj) ⟨ye,?_⟩;subst el;let cy:=hlen.2
     match l,hq,cy with
     |[],hq,cy=>exact⟨cy,.str _,H,Zy 0,⟨_,rfl⟩,hq⟩
     |[p],hq,cy=>exact⟨.str _,H,I,⟨_,rfl⟩,hq⟩
     |p::q::r,hq,cy=>exact⟨cy,.str _,H,Zy 0,⟨_,rfl⟩,hq⟩
    ·show po.elim
   ·show po.elim
  ·show po.elim
 ·show po.elim
theorem So:MtG C k X "str" Sn "str.join" Ds:=λc=>⟨Pa c,λFR s σ H φ h p x v I rh rv r e=>by
 cases p with
 |str z=>have e1:x=.str z:=rv;subst e1;let⟨t,rfl⟩:=r;show⟨typeIs_str s z t,λa e=>nomatch e⟩
 |_=>cases e⟩
end
section
variable{k:Nat}{o:Obj}{its:Y6 0}{ps:Y9 0}
def QJ:PV->y_ V
 |.non=>a_ .non
 |.bl b=>a_ (.bl b)
 |.int i=>d_ i
 |.str z=>a_ (.str z)
 |_=>b_
def Ee:Y9 0->y_ (x_ V)
 |[]=>a_ []
 |p::r=>match QJ p,Ee r with
  |some v,a_ vs=>a_ (v::vs)
  |_,_=>b_
theorem Pb(e:QJ p=a_ v):p_ p v:=by cases p <;> first|(cases e;rfl)|cases e
theorem G8{φ:x_ r_}{H:Hp}:∀{ps:Y9 0}{vs:x_ V},Ee ps=a_ vs->A_ ps vs
 |[],vs,e=>by cases e;trivial
 |p::ps,vs,e=>by
  unfold Ee at e;split at e
  ·rename_i v ws e1 e2;cases e
   show⟨Pb e1,G8 e2⟩
  ·cases e
def MW(K:y0)(a:r_)(ps:Y9 0):Prop:=∃(o:Obj)(its:Y6 0)(n:Nat)(vs:x_ V),K.lookup a=a_ o/\o.cls=.type "tuple" /\ o.data=.seq its n/\its.size<=zf/\aS vs its.toList/\o.dict=b_/\Ee ps=a_ vs
theorem Ii(hm:X.mg x=c_ a)(g:MW C.K a ps)(hg:Gl X x:=by rfl)(hd:(x == ("__debug__" : Str))=false:=by decide):C_ (.Name x pos) (mC (.tup ps)):=λc=>(O5 (v:=.ref a) hg hm rfl hd).imp λσ H Q h=>by let⟨φ,δ,h,rh,re,p⟩:=h;let⟨o,its,n,vs,g1,g2,g3,g4,g5,g6,g7⟩:=g;show p φ (.ref a) H zc (Kp.refl _) rh ⟨a,vs,rfl,.inr ⟨o,its,n,g1,g2,g3,g4,g5,g6⟩,G8 g7⟩
end
theorem AA(e:bX h n=a_ kvs)(hk:(PV.tup xs).ky 6=true)(hl:kvs.length<16777216):nG (.ref n) (.tup xs) z h=a_ (ZK (.dD (eK kvs (.tup xs) z))):=by
 change yB (.ref n) (.tup xs) z h=_
 show Ig e hk hl
theorem Pc{kvs:x_ (Key×PV)}(e:h[n]?=a_ (.dK kvs))(hl:kvs.length<16777216):nG (.ref n) (.str x) z h=a_ (ZK (.dK (eK kvs (.inr x) z))):=by
 change yB (.ref n) (.str x) z h=_
 show Jv e hl
def MX:HO->Prop
 |.tup _=>False
 |.own _=>False
 |.tbl _=>False
 |_=>True
theorem Inv.swap{d:r_}{u u':HO}(I:N_ s)(hd:H d=a_ u)(hu:MX u)(hz:∀o z,X.H₀ d≠a_ (.frz o z))(new:Zj (R_ d u') s.heap d u'):h_ (R_ d u') s:=by
 let nn:∀b,H b=b_->b≠d:=λb n z=>by rw[z,hd]at n;cases n
 let nt:∀b xs,H b=a_ (.tup xs)->b≠d:=λb xs n z=>by rw[z,hd]at n;cases n;show hu
 let no:∀b y,H b=a_ (.own y)->b≠d:=λb xs n z=>by rw[z,hd]at n;cases n;show hu
 let nb:∀b y,H b=a_ (.tbl y)->b≠d:=λb xs n z=>by rw[z,hd]at n;cases n;show hu
 refine⟨I.ok,I.os,I.bare,⟨I.base.keep,I.base.slot,λb o e n hx=>?_,I.base.there,λb xs e=>?_,λb o xs e=>?_,λb ps e=>?_⟩,I.loc,I.cell,?_,λx c e=>?_,λp hp=>?_,λb o e=>?_,I.len⟩
 ·have:=I.base.free b o e n hx;rw[aQ (nn b this)];show this
 ·have:=I.base.tups b xs e;rw[aQ (nt b xs this)];show this
 ·have:=I.base.frzs b o xs e;let ne:b≠d:=λz=>hz o xs (z▸e);rw[aQ ne];show this
 ·let⟨m,e1⟩:=I.base.tbls b ps e;show⟨m,by rw[aQ (nb b _ e1)];show e1⟩
 ·rw[aQ (nn _ I.free)];show I.free
 ·have:=I.freeC x c e;rw[aQ (nn _ this)];show this
 ·let⟨e,n,r⟩:=I.pin p hp;show⟨e,by rw[aQ (nn _ n)];show n,r⟩
 ·by_cases hb:b=d
  ·subst hb;rw[aX]at e;cases e;show new
  ·rw[aQ hb]at e;show(I.hok b o e).stay (λc v _ q=>q) (λc q=>by rw[aQ (no c b q)];show q) λc xs q=>by rw[aQ (nt c xs q)];show q
theorem Inv.nofrz{d:r_}(I:N_ s)(hd:∀o z,H d≠a_ (.frz o z)):∀o z,X.H₀ d≠a_ (.frz o z):=λo z e=>hd o z (I.base.frzs d o z e)
theorem Inv.freeze{d:r_}{u:HO}(I:N_ s)(hd:H d=a_ u)(hu:MX u)(hf:∀o z,u≠.frz o z)(ho:s.heap.get? d=a_ oc):h_ (R_ d (.frz oc u)) s:=by
 let nt:∀b xs,H b=a_ (.tup xs)->b≠d:=λb xs n z=>by rw[z,hd]at n;cases n;show hu
 let no:∀b y,H b=a_ (.own y)->b≠d:=λb xs n z=>by rw[z,hd]at n;cases n;show hu
 refine I.swap hd hu (I.nofrz λo z e=>?_) ⟨ho,(I.hok d u hd).stay (λc v _ q=>q) (λc q=>by rw[aQ (no c d q)];show q) λc xs q=>by rw[aQ (nt c xs q)];show q⟩;rw[hd]at e;show hf o z (zl e)
theorem Inv.thaw{d:r_}{u:HO}(I:N_ s)(hd:H d=a_ (.frz oc u))(hz:∀o z,X.H₀ d≠a_ (.frz o z)):h_ (R_ d u) s:=by
 let nt:∀b xs,H b=a_ (.tup xs)->b≠d:=λb xs n z=>by rw[z,hd]at n;cases n
 let no:∀b y,H b=a_ (.own y)->b≠d:=λb xs n z=>by rw[z,hd]at n;cases n
 let⟨_,q⟩:=I.hok d _ hd;show I.swap hd trivial hz (q.stay (λc v _ q=>q) (λc q=>by rw[aQ (no c d q)];show q) λc xs q=>by rw[aQ (nt c xs q)];show q)
def ItI(dc:r_)(oc:Obj)(u:HO)(ks:x_ (V×V)):It:=⟨λi H=>H dc=a_ (.frz oc u)/\i<ks.length,λi H x H'=>∃t kv,H t=b_/\ks[i]?=a_ kv/\x=.ref t/\H'=R_ t (.tup [kv.1,kv.2]),λi H=>H dc=a_ (.frz oc u)/\ks.length<=i⟩
def ItK(dc:r_)(oc:Obj)(u:HO)(ks:x_ V):It:=⟨λi H=>H dc=a_ (.frz oc u)/\i<ks.length,λi H x H'=>H'=H/\ks[i]?=a_ x,λi H=>H dc=a_ (.frz oc u)/\ks.length<=i⟩
variable{elts:x_ v_}{x1:Nat}
theorem Ij(it dc:r_)(oc:Obj)(u:HO)(es:Array Yk)(ep:Nat)(h2:oc.data=.dict es ep)(ks:x_ (V×V))(hl:ks.length=es.size)(hk:∀(i:Nat)(hi:i<es.size),∃kv,ks[i]?=a_ kv/\RelV kv.1 es[i].key/\RelV kv.2 es[i].val):Turn P w K (.Tuple elts x1 pos) (ItI dc oc u ks) [it] it (λi h=>∃ok ov,IsItemIter h it dc i es.size ep ok ov) where
 mem:=by simp
 obj:=λi h ⟨ok,ov,st⟩ b hb=>by
  let e:b=it:=by simpa using hb
  subst e;show⟨_,st,λv z=>by cases z⟩
 keep:=λi h h' ⟨ok,ov,st⟩ k=>⟨ok,ov,k it (by simp) _ st⟩
 item:=by
  intro X hP hw hK hc i FR s σ H E I hf ⟨ok,ov,st⟩ ⟨hg,hi⟩;subst hP hw hK;let ak:i<es.size:=⋯;let⟨kv,d7,r1,r2⟩:=hk i ak;let⟨f0,f1,f2,f3,f4,f5⟩:=hf it (by simp);let fc:Zq 0=a_ oc:=(I.hok dc _ hg).1;refine next_item st fc h2 ak λh' out gt kp=>⟨_,rfl,?_⟩;refine wpAny_letOwnedTupleGo_items (s:={s with heap:=h'}) out λie hI same=>?_;let fr:H (e_ s)=b_:=I.hok.fresh (zd _);let ne:(e_ s)≠it:=YK (zi st);let yd:ie.get? (e_ s)=a_ {cls:=.type "tuple",data:=.seq #[es[i].key,es[i].val]}:=(same.2 _ ne).trans gt;let km:∀(b:r_)(o:Obj),b≠it->Y1 0=a_ o->ie.get? b=a_ o:=λb o hb e=>(same.2 b hb).trans (kp b o hb e);let kj:∀b u,H b=a_ u->b≠it:=λb u e z=>by rw[z,f0]at e;cases e
  let kh:∀b u,H b=a_ u->b≠(e_ s):=λb u e z=>by rw[z,fr]at e;cases e
  refine⟨.ref (e_ s),R_ (e_ s) (.tup [kv.1,kv.2]),?_,rfl,⟨_,kv,fr,d7,rfl,rfl⟩,⟨_,_,hI⟩,λb hb=>?_⟩
  ·refine Inv.step (s:=s) (h':=ie) (H:=H) (g':=s.gens) (d':=s.drawn) (t':=s.toks) (ch:=[it]) I (λb hb=>?_) (λb o _ _ hc e _=>km b o (λz=>hc (by simp[z])) e) (λb o _ _ hc e _=>⟨o.slots,km b o (λz=>hc (by simp[z])) e⟩) (λb o hc e n=>?_)
    (λb o hc e=>⟨o,km b o (λz=>hc (by simp[z])) e⟩) (λb xs e=>by rw[aQ (kh _ _ e)];show e) (λb o u e=>by rw[aQ (kh _ _ e)];show e) (λb ps e=>⟨#[],by rw[aQ (kh _ _ e),e];simp⟩) (λm hm=>?_) (λb u e=>?_) I.bare
   ·let e:b=it:=by simpa using hb
    subst e;show⟨f3,f1,f4,f5⟩
   ·rw[aQ (Io (zi e))];show n
   ·let⟨o,es,ep,ho,r⟩:=hm;show⟨o,es,ep,km _ o (Yw f1) ho,r⟩
   ·by_cases hb:b=(e_ s)
    ·subst hb;rw[aX]at e;cases e
     show⟨by change 2<=zf;rw[kH];decide,[es[i].key,es[i].val],.cons r1 (.cons r2 .nil),_,yd,rfl,⟨_,rfl⟩,rfl⟩
    ·rw[aQ hb]at e;refine(I.hok b u e).stay (λc v hc q=>km c v ?_ q) (λc q=>by rw[aQ (kh _ _ q)];show q) λc xs q=>by rw[aQ (kh _ _ q)];show q
     rcases hc with z|z
     ·rw[z];show kj b u e
     ·show kj c _ z
  ·let e:b=it:=by simpa using hb
   subst e;rw[aQ (Yw ne)];show f0
 done:=by intro X hP hw hK hc i FR s σ H E I hf ⟨ok,ov,st⟩ ⟨hg,hi⟩;subst hP hw hK;let⟨f0,f1,f2,f3,f4,f5⟩:=hf it (by simp);let fc:Zq 0=a_ oc:=(I.hok dc _ hg).1;show Ki (I.ok.hd hc) st fc h2 ⋯ λh' eb=>⟨rfl,I.turned (t':=s.toks) (λb o hb e=>eb b o hb e) f0 f1 f3 f4 f5⟩
 self:=λ_ _ _ _ _ ⟨_,_,st⟩ h=>HB st h
theorem KJ(it dc:r_)(oc:Obj)(u:HO)(es:Array Yk)(ep:Nat)(h2:oc.data=.dict es ep)(ks:x_ V)(hl:ks.length=es.size)(hk:∀(i:Nat)(hi:i<es.size),∃kv,ks[i]?=a_ kv/\RelV kv es[i].key):Turn P w K tg (ItK dc oc u ks) [it] it (λi h=>h.IsKeyIter it dc i es.size ep) where
 mem:=by simp
 obj:=λi h st b hb=>by
  let e:b=it:=by simpa using hb
  subst e;let⟨o,e,c,d⟩:=st;show⟨o,e,λv z=>by rw[d]at z;cases z⟩
 keep:=λi h h' st k=>st.at λo e=>k it (by simp) o e
 item:=by
  intro X hP hw hK hc i FR s σ H E I hf st ⟨hg,hi⟩;subst hP hw hK;let ak:i<es.size:=⋯;let⟨kv,d7,r1⟩:=hk i ak;let⟨f0,f1,f2,f3,f4,f5⟩:=hf it (by simp);let fc:Zq 0=a_ oc:=(I.hok dc _ hg).1;refine MU st fc h2 ak λh' bf sb=>?_;let I1:N_ {s with heap:=h'}:=I.turned (t':=s.toks) (λb o hb e=>(sb.2 b hb).trans e) f0 f1 f3 f4 f5;let⟨o,e,c,d⟩:=id bf;show⟨_,rfl,Fm (s:={s with heap:=h'}) e c d nofun ⟨kv,H,I1,r1,⟨rfl,d7⟩,bf,λb hb=>(hf b hb).1⟩⟩
 done:=by intro X hP hw hK hc i FR s σ H E I hf st ⟨hg,hi⟩;subst hP hw hK;let⟨f0,f1,f2,f3,f4,f5⟩:=hf it (by simp);let fc:Zq 0=a_ oc:=(I.hok dc _ hg).1;show MV (I.ok.hd hc) st fc h2 ⋯ λh' eb=>⟨rfl,I.turned (t':=s.toks) (λb o hb e=>eb b o hb e) f0 f1 f3 f4 f5⟩
 self:=λ_ _ _ _ _ st h=>wpAny_pyIter_keyiter st h
def oF:MO->y_ (Y9 0)
 |.dK kvs=>a_ (kvs.map λkv=>.tup [kP kv.1,kv.2])
 |.dD kvs=>a_ (kvs.map λkv=>.tup [kv.1,kv.2])
 |_=>b_
def G9:MO->y_ (Y9 0)
 |.dK kvs=>a_ (kvs.map λkv=>kP kv.1)
 |.dD kvs=>a_ (kvs.map (·.1))
 |_=>b_
def A8:y_ MO->Bool
 |some (.dK _)=>true
 |some (.dD _)=>true
 |_=>false
def wkI(b:Bool)(x:PV)(h:PH):y_ (Nat×MO×Y9 0):=match x with
 |.ref n=>match h[n]? with
  |some (.vw 0 d)=>if b then(h[d]?).bind λo=>(oF o).map λxs=>(d,o,xs) else b_
  |some o=>(G9 o).map λxs=>(n,o,xs)
  |none=>b_
 |_=>b_
def sP(b:Bool)(m:Me):Mi:=λδ h=>(m δ h).bind λx h1=>match wkI b x h1 with
 |some (d,o,xs)=>.ok ⟨xs,λ_=>true⟩ (h1.set d (.fz o))
 |none=>.bad
theorem Sq{k:Key}{v:qe}(h:zA k v=true):RelV (kV k) v:=by
 rcases cF h with⟨i,t,rfl,rfl⟩|⟨x,t,rfl,rfl⟩
 ·show⟨t,rfl⟩
 ·show⟨t,rfl⟩
theorem yF{α β:Type}{F:α->β->Prop}:∀{l:x_ α}{m:x_ β},Paired F l m->∀{i:Nat}{a:α},l[i]?=a_ a->∃b,m[i]?=a_ b/\F a b
 |_,_,.nil,i,a,e=>by simp at e
 |_,_,.cons (a:=x) (b:=y) r t,0,a,e=>by
  have:x=a:=by simpa using e
  subst this;show⟨y,rfl,r⟩
 |_,_,.cons r t,i+1,a,e=>by
  let⟨b,h1,h2⟩:=yF t (i:=i) (a:=a) (ke e);show⟨b,ke h1,h2⟩
theorem tT{α β:Type}{F:α->β->Prop}:∀{l:x_ α}{m:x_ β},Paired F l m->∀{i:Nat}{b:β},m[i]?=a_ b->∃a,l[i]?=a_ a/\F a b
 |_,_,.nil,i,a,e=>by simp at e
 |_,_,.cons (a:=x) (b:=y) r t,0,b,e=>by
  have:y=b:=by simpa using e
  subst this;show⟨x,rfl,r⟩
 |_,_,.cons r t,i+1,b,e=>by
  let⟨a,h1,h2⟩:=tT t (i:=i) (b:=b) (ke e);show⟨a,ke h1,h2⟩
theorem JC(a:Key):p_ (kP a) (kV a):=by cases a <;> rfl
theorem MY{kvs:x_ (Key×PV)}{ks:x_ (Key×V)}(rk:ZG kvs ks):A_ (kvs.map λkv=>kP kv.1) ((ks.map λq=>(kV q.1,q.2)).map (·.1)):=by
 unfold RKv at rk
 induction rk with
 |nil=>trivial
 | @cons p q ps qs e t ih=>exact⟨by change p_ (kP p.1) (kV q.1);rw[e.1];show JC q.1,ih⟩
theorem MZ(rk:Z5 kvs ks):A_ (kvs.map (·.1)) ((ks.map λq=>(V.ref q.2.1,q.2.2)).map (·.1)):=by
 unfold RKd at rk
 induction rk with
 |nil=>trivial
 | @cons p q ps qs e t ih=>exact⟨e.2.2.1,ih⟩
structure Uu(C:MC)(φ:x_ r_)(H:Hp)(s:q_)(b:r_)(o:MO)(ks:x_ (V×V))(u:HO)(oc:Obj)(es:Array Yk)(ep:Nat):Prop where
 at':H b=some u
 nf:MX u
 nz:∀o z,u≠.frz o z
 nt:zJ (some u)
 get:s.heap.get? b=some oc
 cls:oc.cls=.type "dict"
 data:oc.data=.dict es ep
 nsys:(b == WL)=false
 fz:∀φ' H',φ<+:φ'->H' b=some (.frz oc u)->Kp H H'->RO C φ' H' b (.fz o)
 len:ks.length=es.size
 ent:∀(i:Nat)(hi:i<es.size),∃kv,ks[i]?=some kv/\RelV kv.1 es[i].key/\RelV kv.2 es[i].val
 keys:∀xs,G9 o=some xs->RVs C φ H xs (ks.map (·.1))
 items:∀xs,oF o=some xs->xs.length=ks.length/\∀(i:Nat) p,xs[i]?=some p->∃p1 p2 kv,p=.tup [p1,p2]/\ks[i]?=some kv/\RV C φ H p1 kv.1/\RV C φ H p2 kv.2
theorem N0{k:Nat}{d:Nat}{b:r_}(c:Y4 X)(I:N_ s)(rh:E_ h)(hb:φ[d]?=a_ b)(ho:h[d]?=a_ o)(hd:A8 (a_ o)=true):∃ks u oc es ep,Uu C φ H s b o ks u oc es ep:=by
 cases o with
 |dK kvs=>
  let⟨ks,hH,rk⟩:=rh.at' d b _ hb ho;let⟨z,hm,vs,rel,dd⟩:=CY I.hok hH;let⟨oc,es,ep,g1,g2,g3,g4,g5,g6⟩:=dd;let l1:ks.length=vs.length:=Wt rel;let l2:es.size=vs.length:=by have:=Bw g5;have:=congrArg YH this;simpa using this
  refine⟨ks.map λq=>(kV q.1,q.2),_,oc,es,ep,hH,trivial,(λ_ _ e=>by cases e),trivial,g1,g2.1,g3,hm,λφ' H' p e t=>⟨oc,ks,e,rk.mono p t⟩,by rw[za,l1,l2],λi hi=>?_,λxs hx=>?_,λxs hx=>?_⟩
  ·let hv:vs[i]?=a_ (vs[i]'⋯):=by simp[show i<vs.length by omega]
   let he:es.toList[i]?=a_ es[i]:=by simp[hi]
   let⟨q1,q2⟩:=g5.get? he hv;let⟨kv,d7,ia⟩:=tT rel hv;refine⟨(kV kv.1,kv.2),by rw[zt,d7];rfl,?_,?_⟩
   ·change RelV (kV kv.1) es[i].key
    rw[ia.1];show Sq q1
   ·change RelV kv.2 es[i].val
    rw[q2];show ia.2
  ·cases hx
   show MY rk
  ·cases hx
   let lk:kvs.length=ks.length:=Wt rk;refine⟨by rw[za,za,lk],λi p e=>?_⟩;rw[zt]at e;let⟨kv,e1,rfl⟩:=Wb.mp e;let⟨q,e2,r2⟩:=yF rk e1;show⟨_,_,(kV q.1,q.2),rfl,by rw[zt,e2];rfl,by change p_ (kP kv.1) (kV q.1);rw[r2.1];show JC q.1,r2.2⟩
 |dD kvs=>
  let⟨ks,hH,rk⟩:=rh.at' d b _ hb ho;let hO:Zj H s.heap b (dDO C.w b ks):=I.hok b _ hH;let⟨⟨hz,hm,xs,rx,oc,es,ep,g1,g2,g3,g4,g5⟩,_⟩:=hO;let l1:ks.length=xs.length:=Wt rx;let l2:es.size=xs.length:=by have:=congrArg YH g4;simpa using this
  refine⟨ks.map λq=>(V.ref q.2.1,q.2.2),_,oc,es,ep,hH,trivial,(λ_ _ e=>by cases e),trivial,g1,g2.1,g3,hm,λφ' H' p e t=>⟨oc,ks,e,rk.mono p t⟩,by rw[za,l1,l2],λi hi=>?_,λxs hx=>?_,λxs hx=>?_⟩
  ·let hv:xs[i]?=a_ (xs[i]'⋯):=by simp[show i<xs.length by omega]
   let he:es.toList[i]?=a_ es[i]:=by simp[hi]
   rw[g4,zt,hv]at he;let gm:=zl he;let⟨kv,d7,ia⟩:=tT rx hv;refine⟨(V.ref kv.2.1,kv.2.2),by rw[zt,d7];rfl,?_,?_⟩
   ·change RelV (V.ref kv.2.1) es[i].key
    rw[<-gm,ia.2.1];rfl
   ·change RelV kv.2.2 es[i].val
    rw[<-gm];show ia.2.2
  ·cases hx
   show MZ rk
  ·cases hx
   let lk:kvs.length=ks.length:=Wt rk;refine⟨by rw[za,za,lk],λi p e=>?_⟩;rw[zt]at e;let⟨kv,e1,rfl⟩:=Wb.mp e;let⟨q,e2,r2⟩:=yF rk e1;show⟨_,_,(V.ref q.2.1,q.2.2),rfl,by rw[zt,e2];rfl,r2.2.2.1,r2.2.2.2⟩
 |_=>cases hd
theorem N2(h:G9 o=a_ xs):A8 (a_ o)=true:=by cases o <;> first|rfl|cases h
theorem KL(h:oF o=a_ xs):A8 (a_ o)=true:=by cases o <;> first|rfl|cases h
theorem Pd{x:PV}{d:Nat}(e:wkI b x h=a_ (d,o,xs)):∃n,x=.ref n/\((h[n]?=a_ (.vw 0 d)/\b=true/\h[d]?=a_ o/\oF o=a_ xs)\/(h[n]?=a_ o/\n=d/\G9 o=a_ xs)):=by
 unfold wkI at e;split at e
 ·rename_i n;refine⟨n,rfl,?_⟩;split at e
  ·rename_i d' hv;split at e
   ·rename_i hb;cases e1:h[d']? with
    |none=>rw[e1]at e;cases e
    |some o'=>
     rw[e1]at e;cases e2:oF o' with
     |none=>simp[e2]at e
     |some ys=>simp[e2]at e;let⟨rfl,rfl,rfl⟩:=e;show .inl ⟨hv,hb,e1,e2⟩
   ·cases e
  ·rename_i o' _ hv;cases e2:G9 o' with
   |none=>rw[e2]at e;cases e
   |some ys=>rw[e2]at e;simp at e;let⟨rfl,rfl,rfl⟩:=e;show .inr ⟨hv,rfl,e2⟩
  ·cases e
 ·cases e
def walk2(b:Bool)(x:PV)(h1:PH):Rs Wk:=match wkI b x h1 with
 |some (d,o,xs)=>.ok ⟨xs,λ_=>true⟩ (h1.set d (.fz o))
 |none=>.bad
theorem N3{k:Nat}(b:Bool)(hb:b=true->∃elts x1 pos,tg=.Tuple elts x1 pos)(h:C_ iter m):SI C k X tg iter (sP b m):=λc=>by
 intro FR s σ H R I q;let⟨φ,δ,hh,rh,re,p⟩:=q;let key:rd C m σ H λv H1=>∃φ1 x h1,φ<+:φ1/\Zu H1/\Zi 0/\RV C φ1 H1 x v/\hW C φ1 H1 (walk2 b x h1) R:=by
  refine⟨φ,δ,hh,rh,re,?_⟩;unfold sP at p;cases e:m δ hh with
  |ok x h1=>
   rw[e]at p;intro φ' v H' p' t' a7 aq;refine⟨φ',x,h1,p',t',a7,aq,?_⟩
   change hW C φ' H' (walk2 b x h1) R
   let p0:hW C φ H (walk2 b x h1) R:=p;cases e2:walk2 b x h1 with
   |ok w h2=>rw[e2]at p0;show λφ2 H2 J p2 t2=>p0 φ2 H2 J (p'.trans p2) (t'.trans t2)
   |exc z h2=>rw[e2]at p0;show λφ2 H2 p2 t2=>p0 φ2 H2 (p'.trans p2) (t'.trans t2)
   |bad=>rw[e2]at p0;show p0
  |exc x h1=>rw[e]at p;show p
  |bad=>rw[e]at p;show p
 refine thn (h c FR s σ H _ I key) λv s1 hz=>?_;let⟨x,H1,I1,r1,φ1,x',h1,p1,t1,ab,af,q1⟩:=hz;unfold walk2 at q1;cases e:wkI b x' h1 with
 |none=>rw[e]at q1;show q1.elim
 |some t=>
  let⟨d,o,xs⟩:=t;rw[e]at q1;dsimp only at q1;let⟨n,rfl,kn⟩:=Pd e;let⟨a,rfl,ha⟩:=af;cases r1
  -- the frozen heap
  let fin:∀{bb:r_}{ks:x_ (V×V)}{u:HO}{oc:Obj}{es:Array Yk}{ep:Nat}(i8:φ1[d]?=a_ bb)(W:Uu C φ1 H1 s1 bb o ks u oc es ep)(ob:Obj)(J:It)(tn:Nat->t_->Prop),(∀φ2 H2 h2,φ1<+:φ2->Kp (upd H1 bb (.frz oc u)) H2->RH C φ2 H2 h2->∀i:Nat,
    (i<xs.length->J.go i H2/\∀x H',J.yld i H2 x H'->(∃p,xs[i]?=a_ p/\RV C φ2 H' p x)/\Kp H2 H'/\RH C φ2 H' h2)/\(xs.length<=i->J.stop i H2))->
    Turn X.prog X.w X.K tg J [(e_ s1)] (e_ s1) tn->tn 0 (s1.heap.push ob)->PIE X FR σ tg R (.ref (e_ s1)) {s1 with heap:=s1.heap.push ob}:=λ{bb ks u oc es ep} i8 W ob J tn hJ hT h0=>by
   let I2:=I1.freeze W.at' W.nf W.nz W.get;let nt:zJ (H1 bb):=by rw[W.at'];show W.nt
   refine⟨(e_ s1),[(e_ s1)],tn,J,upd H1 bb (.frz oc u),rfl,I2.kept (t':=s1.toks) λb o e=>y6 _ e,hT,h0,λb hb=>?_,?_⟩
   ·let e:b=(e_ s1):=by simpa using hb
    subst e;show I2.fpOk (zd _) (I2.hok.fresh (zd _))
   ·show q1 φ1 _ J zc (Kp.upd nt) (ab.write i8 nt (W.fz φ1 _ zc aX (Kp.upd nt))) λφ2 H2 h2 p2 t2 aj _ i=>hJ φ2 H2 h2 p2 t2 aj i
  rcases kn with⟨hv,hbt,ho,hx⟩|⟨ho,rfl,hx⟩
  ·let⟨bb,i8,hH⟩:=ab.at' n a _ ha hv;let⟨ks,u,oc,es,ep,W⟩:=N0 c I1 ab i8 ho (KL hx);let⟨elts,x1,pos,rfl⟩:=hb hbt;let dk:s1.heap.IsItemsView a bb:=(I1.hok a _ hH).1;let⟨lx,ex⟩:=W.items xs hx;refine HA dk W.get W.data (fin i8 W _ (ItI bb oc u ks) _ (λφ2 H2 h2 p2 t2 aj i=>⟨λhi=>⟨⟨t2.2 _ _ _ aX,⋯⟩,λx H' y=>?_⟩,λhi=>⟨t2.2 _ _ _ aX,⋯⟩⟩) (Ij _ bb oc u es ep W.data ks W.len W.ent) ⟨.none,.none,ZL 0⟩);let⟨t,kv,ht,d7,rfl,rfl⟩:=y;let⟨p1,p2',kv',wz,md,vc,ou⟩:=ex i xs[i] (by simp[hi]);rw[d7]at md;cases md
   let nt:zJ (H1 bb):=by rw[W.at'];show W.nt
   let T:Kp H1 (upd H2 t (.tup [kv.1,kv.2])):=(Kp.upd nt).trans (t2.trans (Kp.new ht));refine⟨⟨xs[i],by simp[hi],?_⟩,Kp.new ht,aj.aside ht⟩;rw[wz];show⟨t,[kv.1,kv.2],rfl,.inl (.inl aX),vc.mono p2 T,ou.mono p2 T,trivial⟩
  ·let⟨ks,u,oc,es,ep,W⟩:=N0 c I1 ab ha ho (N2 hx);let rk:=W.keys xs hx;let lx:=rk.length;rw[za]at lx;refine KI ⟨oc,W.get,W.cls⟩ W.nsys W.get W.data (fin ha W _ (ItK a oc u (ks.map (·.1))) _ (λφ2 H2 h2 p2 t2 aj i=>⟨λhi=>⟨⟨t2.2 _ _ _ aX,by rw[za];omega⟩,λx H' y=>?_⟩,λhi=>⟨t2.2 _ _ _ aX,by rw[za];omega⟩⟩) (KJ _ a oc u es ep W.data (ks.map (·.1)) (by rw[za];show W.len) λi hi=>?_) ⟨_,ZL 0,rfl,rfl⟩)
   ·let⟨rfl,ey⟩:=y;let nt:zJ (H1 a):=by rw[W.at'];show W.nt
    let⟨p,dj,rp⟩:=rk.get ey;show⟨⟨p,dj,rp.mono p2 ((Kp.upd nt).trans t2)⟩,Kp.refl _,aj⟩
   ·let⟨kv,d7,r1,_⟩:=W.ent i hi;show⟨kv.1,by rw[zt,d7];rfl,r1⟩
theorem RH.writeQ(r:E_ h){u:HO}(e:φ[n]?=a_ a)(t:Kq H (R_ a u))(q:RO C φ (R_ a u) a o):RH C φ (R_ a u) (ZK o):=by
 refine⟨by rw[W6];show r.len,r.nd,λm b ob h1 h2=>?_⟩;by_cases hm:n=m
 ·subst hm;rw[e]at h1;cases h1;let hl:n<h.length:=by rw[<-r.len];show(yy.mp e).1
  rw[Wz hl]at h2;cases h2
  show q
 ·rw[Wd hm]at h2;let hb:b≠a:=λz=>by subst z;show hm ((List.getElem?_inj (yy.mp e).1 r.nd).mp (e.trans h1.symm))
  show(r.at' m b ob h1 h2).stayQ zc t (aQ hb)
def kY(d:Nat)(h:PH):y_ PH:=match h[d]? with
 |some (.fz o)=>a_ (h.set d o)
 |_=>b_
theorem nH{d:Nat}(rh:E_ h)(hd:A8 h[d]?=true)(p:φ<+:φ')(t:Zu H')(aj:Zh h2)(e:kY d h2=a_ h3):
  ∃a oc u,H' a=a_ (.frz oc u)/\(∀o z,H a≠a_ (.frz o z))/\Zu (upd H' a u)/\RH C φ' (upd H' a u) h3/\Kq H' (upd H' a u):=by
 unfold kY at e;split at e
 ·rename_i o ho;cases e
  cases e0:h[d]? with
  |none=>rw[e0]at hd;cases hd
  |some o0=>
   rw[e0]at hd;let⟨a,ha,r0⟩:=rh.get e0;let nf:∀o z,H a≠a_ (.frz o z):=λo z q=>by
    cases o0 with
    |dK kvs=>let⟨ks,q2,_⟩:=r0;rw[q]at q2;cases q2
    |dD kvs=>let⟨ks,q2,_⟩:=r0;rw[q]at q2;cases q2
    |_=>cases hd
   let ha':=jA p ha;let r1:=aj.at' d a _ ha' ho;let gen:∀oc u,H' a=a_ (.frz oc u)->(∀xs,u≠.tup xs)->(∀xs,u≠.lst xs)->Zu (upd H' a u)/\Kq H' (upd H' a u):=λoc u q nt nl=>by
    let kq:Kq H' (upd H' a u):=⟨λb xs z=>by
     let ne:b≠a:=by
      rintro rfl;rcases z with z|⟨ob,z⟩
      ·rw[q]at z;cases z
      ·rw[q]at z;cases z;show nt _ rfl
     unfold Rd;rw[aQ ne];show z,λb ob xs z=>by
     let ne:b≠a:=by rintro rfl;rw[q]at z;cases z;show nl _ rfl
     rw[aQ ne];show z⟩
    refine⟨⟨λb xs z=>kq.1 b xs (t.1 b xs z),λb ob z q2=>?_⟩,kq⟩;let ne:b≠a:=λz2=>nf ob z (z2▸q2);rw[aQ ne];show t.2 b ob z q2
   cases o with
   |dK kvs=>let⟨oc,ks,q,r⟩:=r1;let⟨k1,k2⟩:=gen oc _ q (λ_ z=>by cases z) (λ_ z=>by cases z);show⟨a,oc,_,q,nf,k1,aj.writeQ ha' k2 ⟨ks,aX,r.monoQ zc k2⟩,k2⟩
   |dD kvs=>let⟨oc,ks,q,r⟩:=r1;let⟨k1,k2⟩:=gen oc _ q (λ_ z=>by cases z) (λ_ z=>by cases z);show⟨a,oc,_,q,nf,k1,aj.writeQ ha' k2 ⟨ks,aX,r.monoQ zc k2⟩,k2⟩
   |_=>exact r1.elim
 ·cases e
def wkD(b:Bool)(m:Me)(δ:Ev)(h:PH):y_ Nat:=match m δ h with
 |.ok x h1=>match wkI b x h1 with
  |some (d,_,_)=>if A8 h[d]?=true then a_ d else b_
  |none=>b_
 |_=>b_
theorem N4{d:Nat}(e:wkD b m δ h=a_ d):A8 h[d]?=true:=by
 unfold wkD at e;split at e
 ·split at e
  ·split at e
   ·rename_i hd;cases e
    show hd
   ·cases e
  ·cases e
 ·cases e
def BJ(b:Bool)(m me:Me):Me:=λδ h=>match wkD b m δ h with
 |some d=>(me δ h).bind λp h2=>match kY d h2 with
  |some h3=>.ok p h3
  |none=>.bad
 |none=>.bad
theorem Sr{k:Nat}(b:Bool)(m:Me)(he:C_ e me):C_ e (BJ b m me):=λc=>by
 intro FR s σ H Q I q;let⟨φ,δ,h,rh,re,p⟩:=q;unfold BJ at p;cases ed:wkD b m δ h with
 |none=>rw[ed]at p;show p.elim
 |some d=>
  rw[ed]at p;dsimp only at p;let hd:=N4 ed;refine thn (he c FR s σ H (λv H2=>∃a oc u,H2 a=a_ (.frz oc u)/\(∀o z,H a≠a_ (.frz o z))/\Q v (upd H2 a u)) I ⟨φ,δ,h,rh,re,?_⟩) ?_
  ·cases em:me δ h with
   |bad=>rw[em]at p;show p.elim
   |exc x h2=>rw[em]at p;show p
   |ok p2 h2=>
    rw[em]at p;let p0:O_ (match kY d h2 with|some h3=>.ok p2 h3|none=>.bad) Q:=p
    intro φ' v H' pp tt a7 aq;cases et:kY d h2 with
    |none=>rw[et]at p0;show p0.elim
    |some h3=>rw[et]at p0;let⟨a,oc,u,q,nf,k1,ax,k2⟩:=nH rh hd pp tt a7 et;show⟨a,oc,u,q,nf,p0 φ' v _ pp k1 ax (aq.monoQ zc k2)⟩
  ·rintro v s1 ⟨x,H2,I2,r,a,oc,u,q,nf,hq⟩;show⟨x,_,I2.thaw q (I.nofrz nf),r,hq⟩
theorem RE.monoQ(t:Kq H H')(h:Y7 0):RE C φ H' δ σ:=⟨h.1,λi x e=>let ⟨v,q,r⟩:=h.2 i x e;⟨v,q,r.monoQ zc t⟩⟩
def sQ(d:Nat):Fl->Fl
 |.nx δ h=>match kY d h with
  |some h3=>.nx δ h3
  |none=>.bad
 |.rt p h=>match kY d h with
  |some h3=>.rt p h3
  |none=>.bad
 |.bk δ h=>match kY d h with
  |some h3=>.bk δ h3
  |none=>.bad
 |.ct δ h=>match kY d h with
  |some h3=>.ct δ h3
  |none=>.bad
 |.exc x h=>.exc x h
 |.bad=>.bad
def yG(b:Bool)(m:Me)(ms:Ms):Ms:=λδ h=>match wkD b m δ h with
 |some d=>sQ d (ms δ h)
 |none=>.bad
def JD(H:Hp)(P:Hp->Prop)(H2:Hp):Prop:=∃a oc u,H2 a=a_ (.frz oc u)/\(∀o z,H a≠a_ (.frz o z))/\P (upd H2 a u)
theorem Ss{k:Nat}{ms:Ms}(b:Bool)(m:Me)(he:ZT st ms):ZT st (yG b m ms):=λc=>by
 intro FR s σ H D I q;let⟨φ,δ,h,rh,re,p⟩:=q;unfold yG at p;cases ed:wkD b m δ h with
 |none=>rw[ed]at p;show p.elim
 |some d=>
  rw[ed]at p;dsimp only at p;let hd:=N4 ed;refine thn (he c FR s σ H { nx:=λσ=>JD H (D.nx σ),rt:=λv=>JD H (D.rt v),bk:=λσ=>JD H (D.bk σ),ct:=λσ=>JD H (D.ct σ)} I ⟨φ,δ,h,rh,re,?_⟩) ?_
  ·cases em:ms δ h with
   |bad=>rw[em]at p;show p.elim
   |exc x h2=>rw[em]at p;show p
   |nx δ2 h2=>
    rw[em]at p;intro φ' v H' pp tt a7 aq;cases et:kY d h2 with
    |none=>simp only[sQ,et]at p;show p.elim
    |some h3=>simp only[sQ,et]at p;let⟨a,oc,u,q,nf,k1,ax,k2⟩:=nH rh hd pp tt a7 et;show⟨a,oc,u,q,nf,p φ' v _ pp k1 ax (RE.monoQ k2 aq)⟩
   |rt x h2=>
    rw[em]at p;intro φ' v H' pp tt a7 aq;cases et:kY d h2 with
    |none=>simp only[sQ,et]at p;show p.elim
    |some h3=>simp only[sQ,et]at p;let⟨a,oc,u,q,nf,k1,ax,k2⟩:=nH rh hd pp tt a7 et;show⟨a,oc,u,q,nf,p φ' v _ pp k1 ax (aq.monoQ zc k2)⟩
   |bk δ2 h2=>
    rw[em]at p;intro φ' v H' pp tt a7 aq;cases et:kY d h2 with
    |none=>simp only[sQ,et]at p;show p.elim
    |some h3=>simp only[sQ,et]at p;let⟨a,oc,u,q,nf,k1,ax,k2⟩:=nH rh hd pp tt a7 et;show⟨a,oc,u,q,nf,p φ' v _ pp k1 ax (RE.monoQ k2 aq)⟩
   |ct δ2 h2=>
    rw[em]at p;intro φ' v H' pp tt a7 aq;cases et:kY d h2 with
    |none=>simp only[sQ,et]at p;show p.elim
    |some h3=>simp only[sQ,et]at p;let⟨a,oc,u,q,nf,k1,ax,k2⟩:=nH rh hd pp tt a7 et;show⟨a,oc,u,q,nf,p φ' v _ pp k1 ax (RE.monoQ k2 aq)⟩
  ·intro f s1 hf;cases f with
   |next=>let⟨σ',H2,I2,a,oc,u,q,nf,hq⟩:=hf;show⟨σ',_,I2.thaw q (I.nofrz nf),hq⟩
   |brk=>let⟨σ',H2,I2,a,oc,u,q,nf,hq⟩:=hf;show⟨σ',_,I2.thaw q (I.nofrz nf),hq⟩
   |cont=>let⟨σ',H2,I2,a,oc,u,q,nf,hq⟩:=hf;show⟨σ',_,I2.thaw q (I.nofrz nf),hq⟩
   |ret w=>let⟨v,σ',H2,I2,r,a,oc,u,q,nf,hq⟩:=hf;show⟨v,σ',_,I2.thaw q (I.nofrz nf),r,hq⟩
def fD:PV->Y9 0->PH->Rs PV:=λx ps h=>match x,ps with
 |.ref n,[]=>if A8 h[n]?=true then .ok (.ref h.length) (h++[.vw 0 n]) else .bad
 |_,_=>.bad
theorem Ga{k:Nat}:MtG C k X "dict" dR "dict.items" fD:=λc=>⟨λFR s σ H x xs v us Q I rx rs h=>by
 let⟨φ,h,p,ps,rh,rp,fg,po⟩:=h;unfold fD at po;split at po
 ·rename_i n;split at po
  ·rename_i hd;let⟨a,rfl,ha⟩:=rp;have:xs=[]:=by cases xs <;> first|rfl|exact fg.elim
   subst this;cases rx
   cases rs
   cases ho:h[n]? with
   |none=>rw[ho]at hd;cases hd
   |some o=>
    rw[ho]at hd;let⟨ks,u,oc,es,ep,W⟩:=N0 c I rh ha ho hd;let hT:s.TypeIs (.ref a) "dict" := ⟨oc,W.get,W.cls⟩;refine XH PySem.F.slot_dict_items hT PySem.F.entry_dict_items (PySem.F.args_dict_items_1 _) (FG a W.nsys) ⟨hT,?_⟩;let fr:H (e_ s)=b_:=I.fresh;refine⟨.ref (e_ s),_,I.laid (t':=s.toks) (o:=M4 0 (e_ s) a) (λb u e=>y6 _ e) (zd _) ?_,rfl,?_⟩
    ·show⟨⟨_,ZL 0,rfl,rfl⟩,⟨_,ZL 0⟩,λh1 h2 ⟨o,e,p⟩ k=>⟨o,k o e,p⟩⟩
    ·show po (φ++[(e_ s)]) (.ref _) _ (Wx _ _) (Kp.new fr) (rh.new fr ⟨a,jA (Wx _ _) ha,aX⟩) ⟨_,rfl,by rw[<-rh.len];simp⟩
  ·show po.elim
 ·show po.elim,vJ c⟩
theorem BK(e:h[n]?=a_ o)(hd:A8 (a_ o)=true):fD (.ref n) [] h=.ok (.ref h.length) (h++[.vw 0 n]):=by simp only[fD,e,hd,if_true]
theorem Gb{d:Nat}(e:h[n]?=a_ (.vw 0 d))(e2:h[d]?=a_ o)(hx:oF o=a_ xs):wkI true (.ref n) h=a_ (d,o,xs):=by simp[wkI,e,e2,hx]
theorem N5{x:PV}{d:Nat}(e:m δ h=.ok x h1)(ew:wkI b x h1=a_ (d,o,xs))(hd:A8 h[d]?=true):wkD b m δ h=a_ d:=by simp[wkD,e,ew,hd]
theorem Gc{x:PV}{d:Nat}(e:m δ h=.ok x h1)(ew:wkI b x h1=a_ (d,o,xs)):sP b m δ h=.ok ⟨xs,λ_=>true⟩ (h1.set d (.fz o)):=by simp[sP,e,ew]
theorem Gd{d:Nat}{l:x_ MO}(e:h1[d]?=a_ o):kY d (h1.set d (.fz o)++l)=a_ (h1++l):=by
 let hl:d<h1.length:=(yy.mp e).1;let e1:(h1.set d (.fz o)++l)[d]?=a_ (.fz o):=by rw[Wj (by rw[W6];show hl),Wz hl]
 unfold kY;rw[e1];dsimp only;congr 1;rw[List.set_append_left _ _ (by rw[W6];show hl),List.set_set];congr 1;apply Xt;intro i;by_cases hi:d=i
 ·subst hi;rw[Wz hl,e]
 ·rw[Wd hi]
theorem KM{α:Type}{x:PV}{d:Nat}{tg:Mg}{ys:x_ α}{emb:α->PV}(f:α->y_ PV)(e:m δ h=.ok x h1)(ew:wkI b x h1=a_ (d,o,ys.map emb))(hd:A8 h[d]?=true)(ho:h1[d]?=a_ o)(hz:ys.length<=16777216)(step:∀y∈ys,∃δ1,tg (emb y) (gZ js δ)=a_ δ1/\∀h,match f y with
   |none=>tst δ1 h=.ok false h
   |some p=>tst δ1 h=.ok true h/\elt δ1 h=.ok p h):BJ b m (dQ js (sP b m) tg tst elt) δ h=.ok (.ref h1.length) (h1++[.lst (ys.filterMap f)]):=by
 let hc:=nE (js:=js) (tg:=tg) (tst:=tst) (elt:=elt) (δ:=δ) (h:=h) (g:=λ_=>true) f (Gc e ew) (λ_ _=>rfl) hz λy hy=>let ⟨δ1,a,b⟩:=step y hy;⟨δ1,a,λh _=>b h⟩;unfold BJ;rw[N5 e ew hd];dsimp only;rw[hc,Rs.bind_ok,Gd ho];rw[W6]
theorem Ef{α:Type}{x:PV}{d:Nat}{tg:Mg}{ys:x_ α}{emb:α->PV}(f:α->y_ PV)(e:m δ h=.ok x h1)(ew:wkI b x h1=a_ (d,o,ys.map emb))(hd:A8 h[d]?=true)(ho:h1[d]?=a_ o)(hz:ys.length<=16777216)(step:∀y∈ys,∃δ1,tg (emb y) (gZ js δ)=a_ δ1/\∀h,match f y with
   |none=>tst δ1 h=.ok false h
   |some p=>tst δ1 h=.ok true h/\elt δ1 h=.ok p h):yG b m (bZ i (dQ js (sP b m) tg tst elt)) δ h=.nx (δ.set i (c_ h1.length)) (h1++[.lst (ys.filterMap f)]):=by
 let hc:=nE (js:=js) (tg:=tg) (tst:=tst) (elt:=elt) (δ:=δ) (h:=h) (g:=λ_=>true) f (Gc e ew) (λ_ _=>rfl) hz λy hy=>let ⟨δ1,a,b⟩:=step y hy;⟨δ1,a,λh _=>b h⟩;unfold yG;rw[N5 e ew hd];dsimp only;let hs:bZ i (dQ js (sP b m) tg tst elt) δ h=.nx (δ.set i (c_ h1.length)) (h1.set d (.fz o)++[.lst (ys.filterMap f)]):=by unfold bZ;rw[hc,W6];rfl
 rw[hs];simp only[sQ,Gd ho]
open PySem.SeqAt
section
theorem BL(I:N_ s):∀{ds es:x_ D}{vs:x_ V},Q_ 0<=40->eO X.K H ds vs->eO X.K H es vs->ds=es
 |[],[],[],_,_,_=>rfl
 |d::ds,e::es,v::vs,h,⟨a,b⟩,⟨a',b'⟩=>by
  let hh:D.depths (d::ds)=max d.depth (Q_ 0):=by simp[D.depths]
  let h1:d.depth<=40:=⋯;let h2:Q_ 0<=40:=⋯;rw[rO I 40 d e v h1 a a',BL I h2 b b']
 |[],_::_,vs,_,h,h'=>by
  cases vs with
  |nil=>exact h'.elim
  |cons _ _=>exact h.elim
 |_::_,[],vs,_,h,h'=>by
  cases vs with
  |nil=>exact h.elim
  |cons _ _=>exact h'.elim
theorem VI(I:N_ s){ds es:x_ D}{x:V}{v:qe}(hd:Q_ 0<=40)(hu:A.units+42<cLine)(hx:FA X.K H ds x)(hy:FA X.K H es y)(rx:Zr v)(ry:Z4 u):EqAt A s v u (iO ds es):=by
 let⟨a,vs,rfl,q,r⟩:=hx;let⟨b,cg,rfl,q',r'⟩:=hy;cases rx;cases ry;refine iP (λprog w E Q hq=>?_) (λe=>?_) (λf t z=>by cases z)
 ·let⟨its,rv,p,_⟩:=I.list q;let⟨its',aq,p',_⟩:=I.list q';let l1:=r.length;let l2:=r'.length;let l3:=rv.length;let l4:=aq.length;by_cases hl:ds.length=es.length
  ·refine eq_listAt p.isList p'.isList (by simp;omega) ⋯ (tB (I:=I) r r' rv aq hd ⋯) ?_;let e1:its.toArray.size=ds.length:=by simp;omega
   rw[e1,wZ hl];show hq
  ·refine eq_list_lengthsAt p.isList p'.isList (by simp;omega) ⋯ ?_;let e:iO ds es=false:=by
    cases h:iO ds es with
    |false=>rfl
    |true=>exact absurd (B5 h) hl
   rw[e]at hq;show hq
 ·cases e
  let ev:=I.list_inj q q';subst ev;let e2:=BL I hd r r';subst e2;have:=nB (.tup ds);simpa[eqD] using this
end
open PySem.SeqAt PySem.W
def hdk:PV->y_ Nat
 |.tup (.int _::_)=>a_ 0
 |.tup (.str _::_)=>a_ 1
 |.tup (.tup _::_)=>a_ 2
 |_=>b_
open PySem.SeqAt
def eqL(f:PV->PV->y_ Bool):Y9 0->Y9 0->y_ Bool
 |x::xs,y::ys=>match f x y,eqL f xs ys with
  |some b,a_ c=>a_ (b&&c)
  |_,_=>b_
 |[],[]=>a_ true
 |_,_=>a_ false
theorem N6{f:PV->PV->y_ Bool}:∀{xs ys:Y9 0}{b:Bool},eqL f xs ys=a_ b->
  ∃g:Nat->Bool,(∀(j:Nat)(x y:PV),xs[j]?=a_ x->ys[j]?=a_ y->f x y=a_ (g j))/\b=((z0 (min xs.length ys.length)).all g&&xs.length == ys.length)
 |[],[],b,e=>⟨λ_=>true,λj x y h=>(by simp at h),by cases e;rfl⟩
 |[],y::ys,b,e=>⟨λ_=>true,λj x y h=>(by simp at h),by cases e;simp⟩
 |x::xs,[],b,e=>⟨λ_=>true,λj x y _ h=>(by simp at h),by cases e;simp⟩
 |x::xs,y::ys,b,e=>by
  unfold eqL at e;split at e
  ·rename_i b' c e1 e2;cases e
   let⟨g,h1,h2⟩:=N6 e2;refine⟨λj=>match j with|0=>b'|j+1=>g j,λj x y hx hy=>?_,?_⟩
   ·cases j with
    |zero=>simp at hx hy;subst hx hy;show e1
    |succ j=>exact h1 j x y (ke hx) (ke hy)
   ·rw[h2];let e3:min (x::xs).length (y::ys).length=min xs.length ys.length+1:=by simp only[Wi];omega
    rw[e3,Yf,Xq,List.all_map,Bool.and_assoc];simp[YW]
  ·cases e
theorem Eg{f:PV->PV->y_ Bool}{R:PV->V->Prop}(hf:∀x y v b,f x y=a_ b->R x v->R y v->b=true):∀{xs ys:Y9 0}{vs:x_ V}{b:Bool},(∀(j:Nat)(x:PV),xs[j]?=a_ x->∃v,vs[j]?=a_ v/\R x v)->(∀(j:Nat)(x:PV),ys[j]?=a_ x->∃v,vs[j]?=a_ v/\R x v)->xs.length=ys.length->eqL f xs ys=a_ b->b=true
 |[],[],_,b,_,_,_,e=>by cases e;rfl
 |[],_::_,_,_,_,_,h,_=>by simp at h
 |_::_,[],_,_,_,_,h,_=>by simp at h
 |x::xs,y::ys,vs,b,h1,h2,h,e=>by
  unfold eqL at e;split at e
  ·rename_i b' c e1 e2;cases e
   let⟨v,hv,rx⟩:=h1 0 x rfl;let⟨v',jt,ry⟩:=h2 0 y rfl;rw[hv]at jt;cases jt
   rw[hf x y v b' e1 rx ry,Eg hf (vs:=vs.tail) (λj z hz=>by simpa using h1 (j+1) z hz) (λj z hz=>by simpa using h2 (j+1) z hz) (ke h) e2]
   rfl
  ·cases e
def eqF:Nat->PV->PV->PH->y_ Bool
 |0,x,y,h=>mM x y h
 |n+1,x,y,h=>match mM x y h with
  |some b=>a_ b
  |none=>match x,y with
   |.tup xs,.tup ys=>eqL (λa b=>eqF n a b h) xs ys
   |x,y=>match lY x h,lY y h with
    |some xs,a_ ys=>eqL (λa b=>eqF n a b h) xs ys
    |_,_=>b_
def KN:PV->PV->PH->Rs PV:=λx y h=>ofB (eqF 3 x y h) h
def vR:PV->PV->PH->Rs PV:=λx y h=>ofB ((eqF 3 x y h).map not) h
section
variable{k:Nat}
theorem tU:∀{xs:Y9 0}{vs:x_ V},ZQ 0->xs.length=vs.length/\∀(j:Nat)(x:PV),xs[j]?=a_ x->∃v,vs[j]?=a_ v/\p_ x v
 |[],[],_=>⟨rfl,λj x h=>by simp at h⟩
 |x::xs,v::vs,r=>by
  let⟨l,q⟩:=tU r.2;refine⟨by simp[l],λj y hy=>?_⟩;cases j with
  |zero=>simp at hy;subst hy;show⟨v,rfl,r.1⟩
  |succ j=>simpa using q j y (ke hy)
 |[],_::_,r=>r.elim
 |_::_,[],r=>r.elim
theorem Du(I:N_ s)(hK:X.K=C.K)(rh:E_ h){x y:PV}{w:V}(e:mM x y h=a_ b)(rx:p_ x w)(ry:p_ y w):b=true:=by
 rcases nZ rh rx ry e with⟨d,e',q1,q2,q3,rfl⟩|⟨d,e',⟨a,vs,hw,sa,ra⟩,⟨a',us,hw',gz,ra'⟩,q3,rfl⟩
 ·rw[<-hK]at q1 q2;rw[rO I 40 d e' w q3 q1 q2];show nB _
 ·rw[<-hK]at sa gz ra ra';subst hw;cases hw'
  let ev:=I.list_inj sa gz;subst ev;let e2:=BL I q3 ra ra';subst e2;have:=nB (.tup d);simpa[eqD] using this
theorem N7(I:N_ s)(hK:X.K=C.K)(rh:E_ h):∀(n:Nat)(x y:PV)(w:V)(b:Bool),eqF n x y h=a_ b->p_ x w->p_ y w->b=true:=by
 intro n
 induction n with
 |zero=>intro x y w b e rx ry;show Du I hK rh e rx ry
 |succ n ih=>
  intro x y w b e rx ry;unfold eqF at e;split at e
  ·rename_i b' e2;cases e
   show Du I hK rh e2 rx ry
  ·split at e
   ·rename_i xs ys _;let⟨a,vs,rfl,q,r⟩:=rx;let⟨a',us,hw,q',r'⟩:=ry;cases hw
    rw[<-hK]at q q';let ev:=I.tuple_inj q q';subst ev;let⟨l1,a1⟩:=tU r;let⟨l2,a2⟩:=tU r';show Eg (R:=RV C φ H) (λx y v b=>ih x y v b) a1 a2 ⋯ e
   ·split at e
    ·rename_i xs ys h1 h2;let⟨a,vs,rfl,sa,ra⟩:=kN rh rx h1;let⟨a',us,hw,sb,rb⟩:=kN rh ry h2;cases hw
     rw[<-hK]at sa sb;let ev:=I.list_inj sa sb;subst ev;let⟨l1,a1⟩:=tU ra;let⟨l2,a2⟩:=tU rb;show Eg (R:=RV C φ H) (λx y v b=>ih x y v b) a1 a2 ⋯ e
    ·cases e
theorem Ge(hn:∀(A:td)(x y:PV)(v u:V)(i j:qe)(b:Bool),A.units+42+n<cLine->eqF n x y h=a_ b->p_ x v->p_ y u->ZF i->RelV u j->EqAt A s i j b){us:x_ V}{is js:ZE 0}(hu:A.units+42+n<cLine)(e:eqL (λa b=>eqF n a b h) xs ys=a_ b)(r:ZQ 0)(r':A_ ys us)(rv:aS vs is)(cf:aS us js):
  ∃g:Nat->Bool,is.toArray.size=xs.length/\js.toArray.size=ys.length/\(∀(j:Nat)(h1:j<is.toArray.size)(h2:j<js.toArray.size),EqAt A s is.toArray[j] js.toArray[j] (g j))/\b=((z0 (min is.toArray.size js.toArray.size)).all g&&is.toArray.size == js.toArray.size):=by
 let⟨g,hg,hb⟩:=N6 e;let⟨l1,a1⟩:=tU r;let⟨l2,a2⟩:=tU r';let l3:=rv.length;let l4:=cf.length;let z1:is.toArray.size=xs.length:=by simp;omega
 let z2:js.toArray.size=ys.length:=by simp;omega
 refine⟨g,z1,z2,λj h1 h2=>?_,by rw[z1,z2];show hb⟩;let k1:j<xs.length:=⋯;let k2:j<ys.length:=⋯;let⟨v,hv,q1⟩:=a1 j xs[j] (z9 k1);let⟨u,jf,q2⟩:=a2 j ys[j] (z9 k2);let⟨i,hi,q3⟩:=rv.get hv;let⟨i',ak,q4⟩:=cf.get jf;let e1:is.toArray[j]=i:=by have:=(yy.mp hi).2;simpa using this
 let e2:js.toArray[j]=i':=by have:=(yy.mp ak).2;simpa using this
 rw[e1,e2];show hn A _ _ v u i i' (g j) hu (hg j _ _ (z9 k1) (z9 k2)) q1 q2 q3 q4
theorem Ik(I:N_ s)(hK:X.K=C.K)(rh:E_ h)(n:Nat)(hn:∀(A:td)(x y:PV)(v u:V)(i j:qe)(b:Bool),A.units+42+n<cLine->eqF n x y h=a_ b->p_ x v->p_ y u->ZF i->RelV u j->EqAt A s i j b)
  (A:td) (x y:PV) (v u:V) (i j:qe) (b:Bool) (hu:A.units+43+n<cLine) (e2:mM x y h=b_) (e:eqF (n+1) x y h=a_ b) (rx:p_ x v) (ry:p_ y u) (r1:ZF i) (r2:RelV u j):
  RcAt A s i j b/\RcNeAt A s i j (!b)/\∃a a',i=.ref a/\j=.ref a'/\v=.ref a/\u=.ref a':=by
 unfold eqF at e;rw[e2]at e;simp only at e;split at e
 ·rename_i xs ys;let⟨a,vs,rfl,q,r⟩:=rx;let⟨a',us,rfl,q',r'⟩:=ry;cases r1;cases r2;rw[<-hK]at q q';let⟨its,rv,p,_⟩:=I.tuple q;let⟨its',aq,p',_⟩:=I.tuple q';let⟨g,z1,z2,el,hb⟩:=Ge hn (A:=A.in1) (by change A.units+1+42+n<cLine;omega) e r r' rv aq;rw[hb];show⟨RcAt.tuples p p' ⋯ el,RcNeAt.tuples p p' ⋯ el,a,a',rfl,rfl,rfl,rfl⟩
 ·split at e
  ·rename_i xs ys h1 h2;let⟨a,vs,rfl,sa,ra⟩:=kN rh rx h1;let⟨a',us,rfl,sb,rb⟩:=kN rh ry h2;cases r1;cases r2;rw[<-hK]at sa sb;let⟨its,rv,p,_⟩:=I.list sa;let⟨its',aq,p',_⟩:=I.list sb;let⟨g,z1,z2,el,hb⟩:=Ge hn (A:=A.in1) (by change A.units+1+42+n<cLine;omega) e ra rb rv aq;refine⟨?_,?_,a,a',rfl,rfl,rfl,rfl⟩
   all_goals by_cases hl:its.toArray.size=its'.toArray.size
   all_goals first
    |rw[hb,<-hl,Nat.min_self,beq_self_eq_true,Bool.and_true]
    |rw[hb,beq_eq_false_iff_ne.mpr hl,Bool.and_false]
   ·intro prog w E Q hq;show eq_listAt p.isList p'.isList hl ⋯ el hq
   ·intro prog w E Q hq;show eq_list_lengthsAt p.isList p'.isList (ke hl) ⋯ hq
   ·show RcNeAt.lists p.isList p'.isList hl ⋯ el
   ·show RcNeAt.lists_lengths p.isList p'.isList (ke hl) ⋯
  ·cases e
theorem N8(I:N_ s)(hK:X.K=C.K)(rh:E_ h):∀(n:Nat)(A:td)(x y:PV)(v u:V)(i j:qe)(b:Bool),A.units+42+n<cLine->eqF n x y h=a_ b->p_ x v->p_ y u->ZF i->RelV u j->EqAt A s i j b:=by
 let base:∀(A:td)(x y:PV)(v u:V)(i j:qe)(b:Bool),A.units+42<cLine->mM x y h=a_ b->p_ x v->p_ y u->ZF i->RelV u j->EqAt A s i j b:=by
  intro A x y v u i j b hu e rx ry r1 r3;rcases nZ rh rx ry e with⟨d,e',q1,q2,q3,rfl⟩|⟨d,e',q1,q2,q3,rfl⟩
  ·show LR I (n:=40) q3 ⋯ (by rw[hK];show q1) (by rw[hK];show q2) r1 r3
  ·show VI I q3 hu (by rw[hK];show q1) (by rw[hK];show q2) r1 r3
 intro n
 induction n with
 |zero=>intro A x y v u i j b hu e;show base A x y v u i j b ⋯ e
 |succ n ih=>
  intro A x y v u i j b hu e rx ry r1 r2;cases e2:mM x y h with
  |some b'=>
   unfold eqF at e;rw[e2]at e;cases e
   show base A x y v u i j b ⋯ e2 rx ry r1 r2
  |none=>
   let⟨h1,_,a,a',rfl,rfl,rfl,rfl⟩:=Ik I hK rh n ih A x y v u i j b ⋯ e2 e rx ry r1 r2;refine iP h1 (λz=>?_) (λf t z=>by cases z);cases z
   show N7 I hK rh (n+1) x y _ b e rx ry
theorem Gf{x y:PV}(e:eqF 3 x y h=a_ b):mM x y h=a_ b\/mM x y h=b_:=by
 unfold eqF at e;split at e
 ·rename_i b' e2;cases e
  show .inl e2
 ·show .inr (by assumption)
theorem Il:Y3 (VX .Eq) KN:=λc=>by
 intro FR s σ H x y v u Q I rx ry hq;let⟨φ,h,p,q,rh,rp,rq,po⟩:=hq;let⟨b,e,po⟩:=po.ofB;let hu:=c.hu64;rcases Gf e with e2|e2
 ·refine xV c FR s σ H x y v u Q I rx ry ⟨φ,h,p,q,rh,rp,rq,?_⟩;unfold vEq;rw[e2];show po
 ·show(Ik I c.K rh 2 (N8 I c.K rh 2) X.A p q x y v u b ⋯ e2 e rp rq rx ry).1 X.prog X.w X.xe _ ⟨.bl _,H,I,rfl,P1 rfl⟩
theorem tV:Y3 (VX .NotEq) vR:=λc=>by
 intro FR s σ H x y v u Q I rx ry hq;let⟨φ,h,p,q,rh,rp,rq,po⟩:=hq;let⟨b0,e0,po⟩:=po.ofB;let⟨b,e,rfl⟩:=Wb.mp e0;let hu:=c.hu64;rcases Gf e with e2|e2
 ·refine U1 c FR s σ H x y v u Q I rx ry ⟨φ,h,p,q,rh,rp,rq,?_⟩;unfold vNe;rw[e2];show po
 ·show(Ik I c.K rh 2 (N8 I c.K rh 2) X.A p q x y v u b ⋯ e2 e rp rq rx ry).2.1 X.prog X.w X.xe _ ⟨.bl _,H,I,rfl,P1 rfl⟩
end
def rvX(n i:Nat):Int:=if i<n then((n-1-i:Nat):Int) else -1
def Su(K:y0)(l:r_)(n:Nat):It:=⟨λi H=>∃vs v,ZI l vs/\vs.length=n/\vs.reverse[i]?=a_ v,λi H x H'=>H'=H/\∀vs,ZI l vs->vs.reverse[i]?=a_ x,λi _=>n<=i⟩
theorem N9(a it:r_)(n:Nat):Turn P w K tg (Su K a n) [it] it (λi h=>h.IsRevIter it a (rvX n i)) where
 mem:=by simp
 obj:=λi h st b hb=>by
  let e:b=it:=by simpa using hb
  subst e;let⟨o,e,c,d⟩:=st;show⟨o,e,λv z=>by rw[d]at z;cases z⟩
 keep:=λi h h' st k=>st.at λo e=>k it (by simp) o e
 item:=by
  intro X hP hw hK hc i FR s σ H E I hf st hg;subst hP hw hK;let⟨xs,x,hq,hn,hx⟩:=hg;let⟨its,rv,p,hz⟩:=I.list hq;let hi:=(yy.mp hx).1;rw[YJ]at hi;let cm:xs[n-1-i]?=a_ x:=by rw[List.getElem?_reverse hi]at hx;rw[<-hn];show hx
  let⟨u,hu,ru⟩:=rv.get cm;let⟨f0,f1,f2,f3,f4,f5⟩:=hf it (by simp);let st:s.heap.IsRevIter it a (rvX n i):=st;rw[show rvX n i=((n-1-i:Nat):Int) from if_pos ⋯]at st
  refine wpAny_pyNext_rev_item st p.isList (x:=u) (ke hu) λh' bf sb=>?_;let I1:N_ {s with heap:=h'}:=I.turned (t':=s.toks) (λb o hb e=>(sb.2 b hb).trans e) f0 f1 f3 f4 f5;let⟨o,e,c,d⟩:=id bf;rw[show((n-1-i:Nat):Int)-1=rvX n (i+1) by unfold rvX;split <;> omega]at bf;show⟨u,rfl,Fm (s:={s with heap:=h'}) e c d nofun ⟨x,H,I1,ru,⟨rfl,λys hy=>by rw[I.list_inj hy hq];show hx⟩,bf,λb hb=>(hf b hb).1⟩⟩
 done:=by
  intro X hP hw hK hc i FR s σ H E I hf st hg;subst hP hw hK;let hg:n<=i:=hg;let⟨f0,f1,f2,f3,f4,f5⟩:=hf it (by simp);let st:s.heap.IsRevIter it a (rvX n i):=st;rw[show rvX n i=-1 from if_neg ⋯]at st
  show wpAny_pyNext_rev_end (I.ok.hd hc) st λh' eb=>⟨rfl,I.turned (t':=s.toks) (λb o hb e=>eb b o hb e) f0 f1 f3 f4 f5⟩
 self:=λ_ _ _ _ _ st h=>wpAny_pyIter_revIter st h
def iRv(X:Cx)(ta:TA):TI:=λσ H R=>ta σ H λvs H1=>∃l xs,vs=[.ref l]/\SqL X.K H1 l xs/\R (Su X.K l xs.length) H1
theorem Sv{a:v_}{ta:TA}{p:Pos}(hg:Gl X "reversed")(hm:X.mg "reversed" = b_)(ha:PA X [a] ta)(hs:zw [a] X.env=[(false,eval a X.env)]:=by rfl):
  PI X tg (.Call (.Name "reversed" p) [a] [] pos) (iRv X ta):=by
 intro FR s σ H R I h;refine Call_ (sT I hg hm boot_reversed (Yj (thn (Z9 0) λus s1 hz=>?_) hs rfl));let⟨vs,H1,I1,r1,q1⟩:=hz;let⟨l,xs,e,hq,q⟩:=q1;subst e;cases r1 with
 |cons r rr=>
  cases rr
  cases r
  let⟨its,rv,pl,hz⟩:=I1.list hq;refine call_reversed_list pl.isList ?_;let st:(s1.heap.push (revObj l ((its.toArray.size:Int)-1))).IsRevIter (e_ s1) l ((its.toArray.size:Int)-1):=⟨_,ZL 0,rfl,rfl⟩;refine wpAny_pyIter_revIter st ?_;let hl:=rv.length;let e0:((its.toArray.size:Nat):Int)-1=rvX xs.length 0:=by rw[zb,<-hl];unfold rvX;split <;> omega
  rw[e0]at st⊢;refine⟨(e_ s1),[(e_ s1)],_,_,H1,rfl,I1.kept (t':=s1.toks) λb o e=>y6 _ e,N9 l _ xs.length,st,λb hb=>?_,q⟩;let e:b=(e_ s1):=by simpa using hb
  subst e;show I1.fpOk (zd _) (I1.hok.fresh (zd _))
def rvI:Y9 0->PH->Rs Wk:=λps h=>match ps with
 | [.ref n]=>(match aZ h n with
   |some xs=>.ok ⟨xs.reverse,Bl n xs⟩ h
   |none=>.bad)
 |_=>.bad
def Pe(ms:Ma):Mi:=λδ h=>(ms δ h).bind rvI
theorem Uv{k:Nat}{x:v_}{p:Pos}(ha:SA C k X [x] ms)(hb:("reversed" : Str)∈C.bs:=by decide)(hg:Gl X "reversed" := by rfl)(hs:zw [x] X.env=[(false,eval x X.env)]:=by rfl):
  SI C k X tg (.Call (.Name "reversed" p) [x] [] pos) (Pe ms):=λc=>
 (Sv hg (c.bn _ hb) (ha c) hs).imp λσ H R h=>by
  let⟨φ,δ,h,rh,re,p⟩:=h;refine⟨φ,δ,h,rh,re,(postA.bindI p).imp ?_⟩;rintro vs H1 ⟨φ1,xs,h1,p1,t1,ab,af,q1⟩;unfold rvI at q1;split at q1
  ·rename_i n;let⟨v,rfl,rx⟩:=af.one;let⟨a,rfl,ha'⟩:=rx;cases e:aZ h1 n with
   |none=>rw[e]at q1;show q1.elim
   |some xs=>
    rw[e]at q1;let⟨a2,us,ar,sa,ra⟩:=cZ ab e;rw[ha']at ar;cases ar;rw[<-c.K]at sa;refine⟨a,us,rfl,sa,q1 φ1 H1 (Su X.K a us.length) zc (Kp.refl H1) ab λφ2 H2 h2 p2 t2 aj hg i=>?_⟩;let hg:(match aZ h2 n with|some ys=>PV.beqs ys xs|none=>false)=true:=hg
    cases e2:aZ h2 n with
    |none=>rw[e2]at hg;cases hg
    |some ys=>
     rw[e2]at hg;let qf:=PV.beqs_eq hg;subst qf;let⟨a3,k0,kb,su,ru⟩:=cZ aj e2;rw[jA p2 ha']at kb;cases kb;rw[<-c.K]at su;let hl:=ru.length;let e5:k0.length=us.length:=by rw[<-hl,ra.length]
     change(i<ys.reverse.length->_)/\(ys.reverse.length<=i->_)
     rw[YJ];refine⟨λhi=>?_,λhi=>by change us.length<=i;omega⟩;let iy:i<k0.reverse.length:=by rw[YJ];omega
     refine⟨⟨k0,k0.reverse[i],su,e5,by rw[z9 iy]⟩,λy H' yl=>?_⟩;let⟨rfl,hy⟩:=yl;let⟨pp,ep,rp⟩:=ru.reverse.get (hy k0 su);show⟨⟨pp,ep,rp⟩,Kp.refl _,aj⟩
  ·show q1.elim
def rV:PV->Y9 0->PH->Rs PV:=λx ps h=>match x,ps with
 |.ref n,[.ref m]=>match dA h n,dA h m with
  |some xs,a_ ys=>if xs.length+ys.length<=zf then .ok .non (ZK (.lst (xs++ys))) else .bad
  |_,_=>.bad
 |_,_=>.bad
theorem KO:MtR X "list.extend" (rM C rV):=MtR.imp (show MtR X "list.extend" J8 from K5) λx xs H Q h=>by
 let⟨φ,h,p,ps,rh,rx,rs,po⟩:=h;unfold rV at po;split at po
 ·rename_i n m;let⟨a,rfl,ha⟩:=rx;let⟨v,rfl,rv⟩:=rs.one;let⟨b,rfl,hb⟩:=rv;cases e1:dA h n with
  |none=>rw[e1]at po;show po.elim
  |some us=>
   cases e2:dA h m with
   |none=>rw[e1,e2]at po;show po.elim
   |some ws=>rw[e1,e2]at po;let⟨vs,h1,r1⟩:=Y0 (jE e1);let⟨vx,h2,r2⟩:=rh.at' m b _ hb (jE e2);let⟨hz,po⟩:=po.ite;show⟨a,b,vs,vx,rfl,rfl,h1,h2,by rw[<-r1.length,<-r2.length];show hz,po.lset rh ha h1 (r1.append r2) rfl⟩
 ·show po.elim
theorem N'{k:Nat}:MtS C k X "list" isL "list.extend" rV:=λc=>⟨KO,λφ H h p x rh rv e=>E4 rh rv e⟩
theorem KQ{m:Nat}(e1:h[n]?=a_ (.lst xs))(e2:h[m]?=a_ (.lst ys))(c:xs.length+ys.length<=16777216):rV (.ref n) [.ref m] h=.ok .non (ZK (.lst (xs++ys))):=by
 let a1:dA h n=a_ xs:=by simp[dA,e1]
 let a2:dA h m=a_ ys:=by simp[dA,e2]
 unfold rV;simp only[a1,a2];rw[if_pos (by rw[Wm];show c)]
def tW(f:Fn):Me:=λ_ h=>f [] h
theorem Eh{k:Nat}{p:Pos}{f:Fn}(D:Def C.K X.mg x st a fd ps)(G:M_ a fd ps (spM C 0 f))(hj:j<=k:=by decide)(hg:Gl X x:=by rfl)(bg:(x == ("__debug__" : Str))=false:=by decide):C_ (.Call (.Name x p) [] [] pos) (tW f):=λc=>by
 let e1:=c.K;let D':Def X.K X.mg x st a fd ps:=by rw[e1];show D
 let G':H_ CX0 j a fd ps (spM C 0 f):=by rw[e1];show G
 refine(Lx G' (c.room.mono hj) hg D'.mg D'.fn.kp D'.bd .nil CV bg).imp λσ H Q h=>?_;let⟨φ,δ,h,rh,re,p⟩:=h;show⟨φ,h,[],rh,trivial,rfl,p⟩
@[simp]theorem T9{f:Fn}:tW f δ h=f [] h:=(rfl)
open PySem.W
def zW:Ms:=λ_ _=>.bad
theorem BM{k:Nat}:ZT st zW:=λc _ _ σ H _ I h=>by let⟨φ,δ,h,rh,re,p⟩:=h;show p.elim
theorem getD_none{α:Type}{o:Array (y_ α)}{x:α}(h:(o.getD j (a_ x)).isNone=true):o[j]?=a_ b_:=by
 by_cases q:j<o.size
 ·let e:o.getD j (a_ x)=o[j]:=by simp[Array.getD,q]
  rw[e]at h;rw[Xj q,Option.isNone_iff_eq_none.mp h]
 ·let e:o.getD j (a_ x)=a_ x:=by simp[Array.getD,q]
  rw[e]at h;cases h
theorem sub_tuple_tuple:isSubtype (.type "tuple") (.type "tuple")=pure true:=isSubtype_tuple_tuple
end L2
namespace K61
open PySem L2
local macro_rules|`(o_ $x)=>`(mC (.int $x))
noncomputable section
def yH:Ms:=
 (aU (gY (bW (aG Jp (mV 1) (mCB qB (aB (mV 0) aE))))
  (cV (F_ (mV 0) (mV 1)))
  iL)
 (cV (o_ 0)))
def gJ:Fn:=mFn 2 yH
def BN:Ms:=
 (aU (bZ 3 (aG jM (ZX (ZX (aG HL (mV 3) (mV 3)) (aG HL (o_ 48271) (mV 3))) (mV 4)) (o_ 2147483647)))
  (lQ (mMt isL (onL cL) (mV 2) (aB (mV 3) aE))))
def BO:Ms:=
 (aU (bZ 2 (dW aE))
 (aU (bZ 3 (ZX (aG jM (mV 0) (o_ 2147483647)) (o_ 48271)))
 (aU (pN (qC (aB (ZX (mV 1) (o_ 1)) aE)) (gN 4) BN)
 (cV (mSl (mV 2) (mP (o_ 1)) qA)))))
def vS:Fn:=mFn 5 BO
def Ei:Ms:=
 (aU (bZ 2 (mC (.str "abcdefghijklmnopqrstuvwxyz")))
 (aU (bZ 3 (dF 2 vS (aB (mV 0) (aB (o_ 10) aE))))
 (aU (bZ 4 (mMt Sn Ds (mC (.str "")) (aB (dQ [b_,a_ 2] (dX (mSl (mV 3) qA (mP (o_ 8)))) (gN 0) kQ (F_ (mV 1) (aG jM (mV 0) (o_ 26)))) aE)))
 (aU (gY (bW (aG vEq (aG jM (mV 0) (o_ 3)) (o_ 0)))
  (cV (dQ [b_,a_ 4,a_ 3] (qC (aB (mV 1) aE)) (gN 0) kQ (mSl (mV 1) qA (mP (ZX (o_ 1) (aG jM (ZX (mV 0) (F_ (mV 2) (o_ 8))) (o_ 8)))))))
  iL)
 (aU (bZ 4 (mSl (mV 4) qA (mP (ZX (o_ 1) (aG jM (F_ (mV 3) (o_ 8)) (o_ 8))))))
 (aU (bZ 5 (aG jM (F_ (mV 3) (o_ 9)) (mCB qB (aB (mV 4) aE))))
 (cV (dQ [b_,a_ 4,a_ 2,a_ 5,a_ 3] (qC (aB (mV 1) aE)) (gN 0) kQ (ZX (ZX (mSl (mV 1) qA (mP (mV 3))) (F_ (mV 2) (aG jM (ZX (aG xU (F_ (mV 4) (o_ 9)) (o_ 8)) (aG HL (o_ 5) (mV 0))) (o_ 26)))) (mSl (mV 1) (mP (ZX (mV 3) (o_ 1))) qA))))))))))
def AB:Fn:=mFn 6 Ei
def Gg:Ms:=
 (aU (bZ 4 (ZX (aG HK (aG jM (dF 2 gJ (aB (mV 0) (aB (ZX (o_ 1) (mV 3)) aE))) (aG HK (aG HL (o_ 2) (aG RX (o_ 10) (o_ 40))) (o_ 1))) (aG RX (o_ 10) (o_ 40))) (o_ 1)))
  (lQ (mMt isL (onL cL) (mV 2) (aB (bL (aB (bL (aB (mV 1) (aB (ZX (mV 3) (o_ 1)) aE))) (aB (mC (.str "count")) (aB (bL (aB (mC (.str "")) (aB (o_ 0) aE))) (aB (F_ (mC (.str "abcde")) (mV 3)) (aB (mV 4) aE)))))) aE))))
def Im:Ms:=
 (aU (bZ 2 (dW aE))
 (aU (pN (qC (aB (aG jM (aG xU (dF 2 gJ (aB (mV 0) (aB (o_ 0) aE))) (o_ 72)) (o_ 6)) aE)) (gN 3) Gg)
 (cV (bL (aB (mV 2) (aB (dW aE) aE))))))
def Ej:Fn:=mFn 5 Im
def Dv:Ms:=
 (aU (bZ 6 (F_ (mV 2) (aG jM (mV 5) (mCB qB (aB (mV 2) aE)))))
  (aU (bZ 7 (ZX (mMt dR FV (mV 4) (aB (mV 6) (aB (o_ 0) aE))) (o_ 1)))
  (aU (qJ (mV 7) (mV 4) (mV 6))
  (aU (bZ 8 (dW (aB (bL (aB (mV 1) (aB (o_ 10) aE))) aE)))
  (aU (gY (bW (aG vGt (mV 7) (o_ 1)))
   (lQ (mMt isL (onL cL) (mV 8) (aB (bL (aB (mV 6) (aB (aG HK (mV 7) (o_ 1)) aE))) aE)))
   iL)
  (aU (bZ 9 (bL (aB (mC (.str "settle")) aE)))
  (aU (gY (bW (aG vEq (aG jM (aG xU (mV 5) (o_ 3)) (o_ 2)) (o_ 0)))
   (bZ 9 (bL (aB (mC (.str "back")) (aB (ZX (o_ 1) (aG jM (aG xU (mV 5) (o_ 6)) (mV 7))) (aB (ZX (ZX (o_ 1) (aG jM (aG xU (mV 5) (o_ 6)) (mV 7))) (aG jM (aG xU (mV 5) (o_ 31)) (o_ 4))) aE)))))
   iL)
  (lQ (mMt isL (onL cL) (mV 3) (aB (bL (aB (bL (aB (mV 6) (aB (mV 7) aE))) (aB (mCB tH (aB (mCB oB (aB (mV 8) aE)) aE)) (aB (mV 9) aE)))) aE))))))))))
def Ek:Ms:=
 (aU (bZ 3 (dW aE))
 (aU (bZ 4 mN)
 (aU (pN (dX (mV 0)) (gN 5) Dv)
 (cV (mV 3)))))
def AC:Fn:=mFn 10 Ek
def El:Ms:=(cV (bL (aB (dW aE) (aB (dW aE) aE))))
def jD:Fn:=mFn 0 El
def Em:Ms:=
 (aU (gY (tG (pE (bW (mCB pO (aB (mV 0) (aB (mC (.ty "tuple")) aE))))) (bW (aG vNe (mCB qB (aB (mV 0) aE)) (o_ 2))))
  (cV (mC (.bl false)))
  iL)
 (aU (gY (tG (pE (bW (mCB pO (aB (F_ (mV 0) (o_ 0)) (aB (mC (.ty "list")) aE))))) (pE (bW (mCB pO (aB (F_ (mV 0) (o_ 1)) (aB (mC (.ty "list")) aE))))))
  (cV (mC (.bl false)))
  iL)
 (cV (FL (aG KN (mV 0) (mV 1)) (aG vEq (dQ [b_] (dX (F_ (mV 0) (o_ 0))) (gN 0) (pE (bW (mCB pO (aB (mV 0) (aB (mC (.ty "tuple")) aE))))) (mV 0)) (dW aE))))))
def oG:Fn:=mFn 2 Em
def oH:Ms:=(cV (mUn (bM "total") (mV 0)))
def cS:Fn:=mFn 1 oH
def iB:Ms:=
 (aU (gY (bW (aG vEq (mV 1) (mC (.tup [.str "",.int (0)]))))
  (cV (mC (.str "map")))
  iL)
 (cV (mIf (bW (aG lU (mV 1) (mUn (bM "made") (mV 0)))) (F_ (F_ (mUn (bM "made") (mV 0)) (mV 1)) (o_ 0)) (mC .non))))
def bA:Fn:=mFn 2 iB
def dN:Str->y_ Fn:=λ(z:Str)=>if z=("Tree" : Str) then a_ bA else(λ_=>b_) z
def mT:Ms:=
 (aU (yG true (qE dR fD (mUn (bM "made") (mV 0))) (bZ 2 (dQ [b_,b_,a_ 1] (sP true (qE dR fD (mUn (bM "made") (mV 0)))) (gTp 2 (gCn (gN 0) (gCn (gN 1) gNl))) (bW (aG vEq (F_ (mV 1) (o_ 1)) (mV 2))) (bL (aB (F_ (mV 1) (o_ 2)) (aB (mV 0) aE))))))
 (aU (gY (bW (aG vEq (eN "kind_of" 1 dN (mV 0) (aB (mV 1) aE)) (mC (.str "row"))))
  zW
  iL)
 (cV (dQ [b_,b_] (dX (mCB nF (aB (mV 2) aE))) (gTp 2 (gCn (gN 0) (gCn (gN 1) gNl))) kQ (mV 1)))))
def cU:Fn:=mFn 3 mT
def fO:Str->y_ Fn:=λ(z:Str)=>if z=("Tree" : Str) then a_ cU else(λ_=>b_) z
def fT:Ms:=
 (aU (bZ 3 (qE isL (onL Ku) (mV 2)))
  (aU (lQ (mMt isL (onL cL) (mV 1) (aB (mV 3) aE)))
  (lQ (mMt isL rV (mV 2) (aB (eN "within" 1 fO (mUn (bM "tree") (mV 0)) (aB (mV 3) aE)) aE)))))
def iC:Ms:=
 (aU (bZ 1 (dW aE))
 (aU (bZ 2 (dW (aB (mC (.tup [.str "",.int (0)])) aE)))
 (aU (E3 1000000 (bW (mV 2)) fT)
 (cV (mV 1)))))
def cN:Fn:=mFn 4 iC
def qK:Ms:=(cV (mIf (bW (aG lU (mV 1) (mUn (bM "made") (mV 0)))) (mSl (F_ (mUn (bM "made") (mV 0)) (mV 1)) (mP (o_ 1)) qA) (mC .non)))
def fI:Fn:=mFn 2 qK
def AD:Str->y_ Fn:=λ(z:Str)=>if z=("Count" : Str) then a_ cS else(λ_=>b_) z
def vT:Str->y_ Fn:=λ(z:Str)=>if z=("Tree" : Str) then a_ fI else(λ_=>b_) z
def fE:Ms:=
 (aU (bZ 3 (eN "kind_of" 1 dN (mUn (bM "tree") (mV 0)) (aB (mV 1) aE)))
 (aU (gY (bW (aG lU (mV 1) (mUn (bM "leaves") (mV 0))))
  (cV (bL (aB (mV 3) (aB (eN "told" 0 AD (F_ (mUn (bM "leaves") (mV 0)) (mV 1)) aE) aE))))
  iL)
 (cV (bL (aB (mV 3) (aB (dQ [b_,a_ 2,a_ 0] (dX (eN "within" 1 fO (mUn (bM "tree") (mV 0)) (aB (mV 1) aE))) (gN 0) kQ (bL (aB (F_ (eN "held" 1 vT (mUn (bM "tree") (mV 2)) (aB (mV 0) aE)) (o_ 1)) (aB (mV 0) (aB (F_ (mV 1) (mV 0)) aE))))) aE))))))
def bI:Fn:=mFn 4 fE
def oI:Str->y_ Fn:=λ(z:Str)=>if z=("Folding" : Str) then a_ cN else(λ_=>b_) z
def oJ:Str->y_ Fn:=λ(z:Str)=>if z=("Folding" : Str) then a_ bI else(λ_=>b_) z
def nI:Ms:=(qJ (eN "telling" 2 oJ (mV 0) (aB (mV 2) (aB (mV 1) aE))) (mV 1) (mV 2))
def kZ:Ms:=
 (aU (bZ 1 mN)
 (aU (pN (Pe (aB (eN "hanging" 0 oI (mV 0) aE) aE)) (gN 2) nI)
 (cV (F_ (mV 1) (mC (.tup [.str "",.int (0)]))))))
def eD:Fn:=mFn 3 kZ
def jQ:Ms:=
 (aU (qI "made" (mV 0) mN)
 (qI "failed" (mV 0) (dW aE)))
def eS:Fn:=mFn 1 jQ
def oK:Ms:=(qI "total" (mV 0) (mV 1))
def iD:Fn:=mFn 2 oK
def sR:Ms:=(qJ (bL (aB (mV 4) (aB (mV 5) (aB (mV 6) aE)))) (mUn (bM "made") (mV 0)) (mV 3))
def qL:Ms:=
 (aU (qI "made" (mV 0) mN)
 (aU (pN (dX (mV 1)) (gTp 4 (gCn (gN 3) (gCn (gN 4) (gCn (gN 5) (gCn (gN 6) gNl))))) sR)
 (qI "failed" (mV 0) (mCB vF (aB (mV 2) aE)))))
def gK:Fn:=mFn 7 qL
def iQ:Ms:=(qI "total" (mV 0) (o_ 0))
def fP:Fn:=mFn 1 iQ
def yI:Ms:=
 (aU (gY (bW (aG vEq (mV 0) (mC (.str "count"))))
  (cV (vQ "Count" 0 fP aE))
  iL)
 (aU (gY (bW (aG vEq (mV 0) (mC (.str "choice"))))
  zW
  iL)
 (aU (gY (bW (aG vEq (mV 0) (mC (.str "bag"))))
  zW
  iL)
 (aU (gY (bW (aG vEq (mV 0) (mC (.str "text"))))
  zW
  iL)
 (cV (mC .non))))))
def rW:Fn:=mFn 1 yI
def fV:Ms:=
 (aU (bZ 3 (dF 1 rW (aB (mV 2) aE)))
 (gY (bW (aG xZ (mV 3) (mC .non)))
  (qJ (mV 3) (mUn (bM "leaves") (mV 0)) (mV 1))
  iL))
def cA:Fn:=mFn 4 fV
def AE:Str->y_ Fn:=λ(z:Str)=>if z=("Tree" : Str) then a_ gK else(λ_=>b_) z
def mG:Str->y_ Fn:=λ(z:Str)=>if z=("Folding" : Str) then a_ cA else(λ_=>b_) z
def rX:Str->y_ Fn:=λ(z:Str)=>if z=("Count" : Str) then a_ iD else(λ_=>b_) z
def jH:Ms:=
 (aU (lQ (eN "add_leaf" 2 mG (mV 0) (aB (mV 4) (aB (mV 5) aE))))
  (gY (bW (aG lU (mV 4) (mUn (bM "leaves") (mV 0))))
   (lQ (eN "fill" 1 rX (F_ (mUn (bM "leaves") (mV 0)) (mV 4)) (aB (mV 8) aE)))
   iL))
def fW:Ms:=
 (aU (HP (mV 1) (gTp 2 (gCn (gN 2) (gCn (gN 3) gNl))))
 (aU (qI "tree" (mV 0) (vQ "Tree" 0 eS aE))
 (aU (lQ (eN "fill" 2 AE (mUn (bM "tree") (mV 0)) (aB (dQ [b_] (dX (mV 2)) (gN 0) kQ (mSl (mV 0) qA (mP (o_ 4)))) (aB (mV 3) aE))))
 (aU (qI "leaves" (mV 0) mN)
 (pN (dX (mV 2)) (gTp 5 (gCn (gN 4) (gCn (gN 5) (gCn (gN 6) (gCn (gN 7) (gCn (gN 8) gNl)))))) jH)))))
def bD:Fn:=mFn 9 fW
def rY:Str->y_ Fn:=λ(z:Str)=>if z=("Count" : Str) then a_ cS else(λ(z:Str)=>if z=("Folding" : Str) then a_ eD else(λ_=>b_) z) z
def Ip:Ms:=(cV (eN "told" 0 rY (vQ "Folding" 1 bD (aB (mV 0) aE)) aE))
def oM:Fn:=mFn 1 Ip
def AF:Ms:=(cV (ZX (o_ 1) (mCB Mr (aB (dQ [b_] (dX (F_ (mV 0) (o_ 1))) (gN 0) kQ (F_ (mV 0) (o_ 1))) aE))))
def AH:Fn:=mFn 1 AF
def Iq:Ms:=
 (aU (HP (F_ (mV 0) (o_ 0)) (gTp 2 (gCn (gN 1) (gCn (gN 2) gNl))))
 (cV (bL (aB (dF 1 AH (aB (mV 0) aE)) (aB (mV 1) (aB (mV 2) aE))))))
def En:Fn:=mFn 3 Iq
def vU:Ms:=(qJ (mV 2) (mV 1) (F_ (mV 2) (o_ 0)))
def tX:Ms:=
 (aU (bZ 1 mN)
 (aU (pN (dX (mV 0)) (gN 2) vU)
 (cV (tO En false (qE dR FX (mV 1))))))
def iR:Fn:=mFn 3 tX
def lA:Ms:=
 (aU (bZ 2 (F_ (mV 1) (o_ 2)))
 (aU (gY (bW (aG lU (F_ (mV 2) (o_ 0)) (bL (aB (mC (.str "make")) (aB (mC (.str "move")) (aB (mC (.str "drop")) aE))))))
  zW
  iL)
 (aU (gY (bW (aG jB (F_ (mV 2) (o_ 0)) (bL (aB (mC (.str "back")) (aB (mC (.str "settle")) aE)))))
  (aU zW
  zW)
  iL)
 (cV (mC (.str "done"))))))
def dC:Fn:=mFn 3 lA
def jR:Ms:=(cV (mUn (bM "total") (mV 0)))
def dI:Fn:=mFn 1 jR
def oO:Str->y_ Fn:=λ(z:Str)=>if z=("Count" : Str) then a_ dI else(λ_=>b_) z
def fJ:Ms:=(cV (mIf (bW (aG lU (mV 1) (mUn (bM "leaves") (mV 0)))) (eN "content" 0 oO (F_ (mUn (bM "leaves") (mV 0)) (mV 1)) aE) (mC .non)))
def bG:Fn:=mFn 2 fJ
def qM:Ms:=(cV (F_ (mV 0) (o_ 0)))
def qN:Fn:=mFn 1 qM
def qO:Ms:=(cV (tO qN false (BJ true (qE dR fD (mUn (bM "made") (mV 0))) (dQ [b_,b_] (sP true (qE dR fD (mUn (bM "made") (mV 0)))) (gTp 2 (gCn (gN 0) (gCn (gN 1) gNl))) kQ (ZX (bL (aB (mV 0) aE)) (mV 1))))))
def gM:Fn:=mFn 1 qO
def qP:Ms:=(cV (mCB vF (aB (mUn (bM "failed") (mV 0)) aE)))
def jI:Fn:=mFn 1 qP
def AI:Str->y_ Fn:=λ(z:Str)=>if z=("Tree" : Str) then a_ jI else(λ_=>b_) z
def vV:Str->y_ Fn:=λ(z:Str)=>if z=("Tree" : Str) then a_ gM else(λ_=>b_) z
def fU:Str->y_ Fn:=λ(z:Str)=>if z=("Folding" : Str) then a_ bG else(λ_=>b_) z
def lB:Ms:=(cV (bL (aB (dQ [b_,a_ 0] (dX (eN "rows" 0 vV (mUn (bM "tree") (mV 0)) aE)) (gN 0) kQ (ZX (mV 0) (bL (aB (eN "content_of" 1 fU (mV 1) (aB (F_ (mV 0) (o_ 0)) aE)) aE)))) (aB (eN "lost" 0 AI (mUn (bM "tree") (mV 0)) aE) aE))))
def eE:Fn:=mFn 1 lB
def AJ:Str->y_ Fn:=λ(z:Str)=>if z=("Folding" : Str) then a_ dC else(λ_=>b_) z
def AK:Str->y_ Fn:=λ(z:Str)=>if z=("Folding" : Str) then a_ eE else(λ_=>b_) z
def Gh:Ms:=(lQ (eN "hear" 1 AJ (mV 2) (aB (mV 3) aE)))
def Ir:Ms:=
 (aU (bZ 2 (vQ "Folding" 1 bD (aB (mV 0) aE)))
 (aU (pN (dX (dF 1 iR (aB (mV 1) aE))) (gN 3) Gh)
 (cV (eN "base" 0 AK (mV 2) aE))))
def yJ:Fn:=mFn 4 Ir
def yK:Ms:=(cV (F_ (mV 0) (o_ 0)))
def nJ:Fn:=mFn 1 yK
def vW:Ms:=
 (aU (HP (F_ (mV 2) (o_ 2)) (gTp 3 (gCn (gN 3) (gCn (gN 4) (gCn (gN 5) gNl)))))
  (gY (bW (Mb vLe vLe (mV 4) (mV 0) (mV 5)))
   (cV (F_ (mV 2) (o_ 0)))
   iL))
def tY:Ms:=
 (aU (pN (dX (mV 1)) (gN 2) vW)
 (cV (mC .non)))
def oP:Fn:=mFn 6 tY
def BP:Ms:=
 (aU (HP (F_ (mV 3) (o_ 0)) (gTp 2 (gCn (gN 4) (gCn (gN 5) gNl))))
  (aU (bZ 6 (F_ (F_ (mV 3) (o_ 2)) (o_ 0)))
  (aU (gY (bW (aG vEq (mV 6) (mC (.str "settle"))))
   (aU (qJ (dW aE) (mV 2) (mV 4))
   S0)
   iL)
  (aU (bZ 7 (dF 2 oP (aB (mV 5) (aB (mMt dR FV (mV 2) (aB (mV 4) (aB (dW aE) aE))) aE))))
  (gY (bW (aG xZ (mV 7) (mC .non)))
   (qJ (mV 7) (mV 1) (F_ (mV 3) (o_ 0)))
   (gY (bW (aG vEq (mV 6) (mC (.str "back"))))
    (lQ (mMt isL (onL cL) (mMt dR rS (mV 2) (aB (mV 4) (aB (dW aE) aE))) (aB (mV 3) aE)))
    iL))))))
def BQ:Ms:=
 (aU (bZ 1 mN)
 (aU (bZ 2 mN)
 (aU (pN (dX (tO nJ true (mV 0))) (gN 3) BP)
 (cV (mV 1)))))
def vX:Fn:=mFn 8 BQ
def tZ:Ms:=
 (aU (bZ 1 (dF 1 iR (aB (mV 0) aE)))
 (aU (bZ 2 (dF 1 vX (aB (mV 1) aE)))
 (cV (dQ [b_,a_ 2] (dX (mV 1)) (gN 0) (bW (aG jB (F_ (mV 0) (o_ 0)) (mV 1))) (mV 0)))))
def lC:Fn:=mFn 3 tZ
def yL:Ms:=(cV (dF 1 oM (aB (dF 2 yJ (aB (tW jD) (aB (dF 1 lC (aB (mV 0) aE)) aE))) aE)))
def gO:Fn:=mFn 1 yL
def Eo:Ms:=
 (aU (bZ 8 (mCB vF (aB (mV 7) aE)))
  (aU (bZ 5 (dF 2 yJ (aB (mV 6) (aB (mV 8) aE))))
  (aU (gY (tG (pE (bW (dF 2 oG (aB (mV 5) (aB (mV 3) aE))))) (tG (bW (aG vR (mV 6) (mV 3))) (bW (aG vR (mV 8) (mV 7)))))
   (cV (mC (.bl false)))
   iL)
  (aU (lQ (qE isL (onL tI) (F_ (mV 5) (o_ 0))))
  (lQ (mMt isL (onL cL) (F_ (mV 5) (o_ 1)) (aB (F_ (mV 2) (o_ 0)) aE)))))))
def Na:Ms:=
 (aU (bZ 1 (dF 2 gJ (aB (mV 0) (aB (o_ 0) aE))))
 (aU (bZ 2 (dF 2 AB (aB (mV 1) (aB (ZX (o_ 2) (aG jM (aG xU (mV 1) (o_ 24)) (o_ 3))) aE))))
 (aU (bZ 3 (dF 2 Ej (aB (mV 0) (aB (F_ (mV 2) (o_ 0)) aE))))
 (aU (bZ 4 (dF 3 AC (aB (mSl (mV 0) (mP (o_ 1)) (mP (o_ 31))) (aB (F_ (mV 2) (o_ 0)) (aB (mSl (mV 2) (mP (o_ 1)) qA) aE)))))
 (aU (bZ 5 (tW jD))
 (aU (gY (tG (pE (bW (dF 2 oG (aB (mV 5) (aB (bL (aB (dW aE) (aB (dW aE) aE))) aE))))) (bW (aG vR (dF 1 oM (aB (mV 5) aE)) (bL (aB (mC (.str "map")) (aB (dW aE) aE))))))
  (cV (mC (.bl false)))
  iL)
 (aU (lQ (mMt isL (onL cL) (F_ (mV 5) (o_ 0)) (aB (bL aE) aE)))
 (aU (lQ (mMt isL (onL cL) (F_ (mV 5) (o_ 1)) (aB (bL aE) aE)))
 (aU (gY (tG (bW (aG vR (tW jD) (bL (aB (dW aE) (aB (dW aE) aE))))) (tG (bW (aG vR (dF 1 gO (aB (dW aE) aE)) (bL (aB (mC (.str "map")) (aB (dW aE) aE))))) (bW (aG vR (dF 1 gO (aB (mV 4) aE)) (bL (aB (mC (.str "map")) (aB (dW aE) aE)))))))
  (cV (mC (.bl false)))
  iL)
 (aU (bZ 6 (bL (aB (mCB vF (aB (F_ (mV 3) (o_ 0)) aE)) (aB (mCB vF (aB (F_ (mV 3) (o_ 1)) aE)) aE))))
 (aU (pN (dX (dW (aB (mV 4) (aB (dW aE) aE)))) (gN 7) Eo)
 (aU (bZ 9 (dQ [b_,a_ 3] (qC (aB (mCB qB (aB (F_ (mV 3) (o_ 0)) aE)) aE)) (gN 0) kQ (bL (aB (F_ (mC (.str "abcde")) (mV 0)) (aB (F_ (F_ (F_ (mV 1) (o_ 0)) (mV 0)) (o_ 0)) (aB (bL (aB (mC (.str "count")) (aB (F_ (F_ (F_ (mV 1) (o_ 0)) (mV 0)) (o_ 4)) aE))) aE))))))
 (aU (bZ 5 (dF 1 oM (aB (mV 6) aE)))
 (aU (gY (tG (pE (bW (mCB pO (aB (mV 5) (aB (mC (.ty "tuple")) aE))))) (tG (bW (aG vR (mV 5) (bL (aB (mC (.str "map")) (aB (mV 9) aE))))) (pE (bW (mCB pO (aB (F_ (mV 5) (o_ 1)) (aB (mC (.ty "list")) aE)))))))
  (cV (mC (.bl false)))
  iL)
 (aU (lQ (qE isL (onL tI) (F_ (mV 5) (o_ 1))))
 (cV (FL (aG KN (mV 6) (mV 3)) (aG KN (dF 1 oM (aB (mV 6) aE)) (bL (aB (mC (.str "map")) (aB (mV 9) aE)))))))))))))))))))))
def Nb:Fn:=mFn 10 Na
end
abbrev Seen:=x_ (Str×Int)
def look:Seen->Str->Zz 0
 |[],_=>b_
 |p::r,h=>if p.1=h then a_ p.2 else look r h
theorem nK(p:Str×Int)(r:Seen)(h:Str):look (p::r) h=if p.1=h then a_ p.2 else look r h:=(rfl)
def dput(kvs:Seen)(h:Str)(n:Int):Seen:=if(look kvs h).isSome then kvs.map (λp=>if p.1=h then(p.1,n) else p) else kvs++[(h,n)]
def emb(kvs:Seen):x_ (Key×PV):=kvs.map λp=>(.inr p.1,.int p.2)
def row(p:Str×Int):Zg 0:=[.inr p.1,.inl p.2]
def sv(S:Seen):PV:=.tup (S.map λp=>.tup [.str p.1,.int p.2])
theorem BR(h:Str):∀kvs:Seen,aP (emb kvs) (.inr h)=(look kvs h).map PV.int
 |[]=>rfl
 |p::r=>by
  change aP ((YQ p.1,PV.int p.2)::emb r) (.inr h)=_
  unfold aP look;by_cases e:p.1=h
  ·rw[if_pos e,if_pos (by rw[e])];rfl
  ·rw[Zs 0,if_neg (ke e)];show BR h r
theorem Pf(kvs:Seen)(h:Str)(n:Int):eK (emb kvs) (.inr h) (.int n)=emb (dput kvs h n):=by
 unfold eK dput;rw[BR];cases look kvs h with
 |none=>simp[emb]
 |some m=>
  simp only[YU,YR,if_true];unfold emb;rw[Wp,Wp];apply WW;intro p _;by_cases e:p.1=h
  ·simp[e]
  ·simp[e]
variable{S:Seen}
theorem Pg{h:Str}{n:Int}:(dput S h n).length<=S.length+1:=by unfold dput;split <;> simp
def Uw:Zg 0->Str×Int
 |[.inr x,.inl n]=>(x,n)
 |_=>("",0)
theorem KR(D:Seen):pP (D.map row)=true:=by
 cases D with
 |nil=>rfl
 |cons p r=>rw[zg];unfold pP;rw[zp];refine⟨rfl,zk.mpr λz hz=>?_⟩;let⟨q,_,rfl⟩:=zm.mp hz;rfl
variable{h:PH}{n:Nat}
theorem KS(e:h[n]?=a_ (.lst ((S.map row).map tP))):tH [.ref n] h=.ok (sv S) h:=by
 simp[tH,aZ,e];unfold sv;congr 1
abbrev Gi:Str:="abcdefghijklmnopqrstuvwxyz"
theorem Nc:Gi.cps.toList.length=26:=by decide +kernel
theorem Dw:Gi.length=26:=by decide +kernel
theorem Nd:∀i:Fin 26,Gi.cps.toList[i.val]?=a_ (97+i.val):=by decide +kernel
variable{c:Nat}
theorem Nf{x:Str}:(x++(⟨#[c]⟩:Str)).length=x.length+1:=by rw[Str.length_append];rfl
theorem JE{i:Int}(h0:0<=i)(h1:i<26):atI Gi.cps.toList i=a_ (97+i.toNat):=by rw[OT h0 (by rw[Nc];show h1)];show Nd ⟨i.toNat,⋯⟩
variable{j:Int}{z:Str}
theorem Ng(h0:0<=j)(h1:j<=z.length):(W2 z b_ (a_ j)).cps.toList=z.cps.toList.take j.toNat:=by
 let di:j<=z.cps.toList.length:=by simpa[Yc] using h1
 let e:W2 z b_ (a_ j)=⟨((z.cps.toList.drop 0).take (j-0).toNat).toArray⟩:=StrLaws.sliceText_to ⟨h0,di⟩;rw[e];simp
theorem Iu(h0:0<=j)(h1:j<=z.length):(W2 z (a_ j) b_).cps.toList=z.cps.toList.drop j.toNat:=by
 let di:j<=z.cps.toList.length:=by simpa[Yc] using h1
 let e:=StrLaws.sliceText_from (x:=z) ⟨h0,di⟩;let e':W2 z (a_ j) b_=_:=e;rw[e']
 change List.take _ _=_
 rw[List.take_of_length_le];rw[List.length_drop];omega
theorem len_list(z:Str):z.cps.toList.length=z.length:=by simp[Yc]
def pv(p:Str×Int):PV:=.tup [.str p.1,.int p.2]
theorem Ux(S:Seen):sv S=.tup (S.map pv):=rfl
theorem KU(D:Seen):∃S:Seen,jP (D.map row)=S.map row:=by
 let hp:=gI (D.map row);refine⟨(jP (D.map row)).map Uw,?_⟩;rw[Wp]
 conv=>lhs;rw[<-List.map_id (jP (D.map row))]
 apply WW;intro z hz;let⟨p,_,rfl⟩:=zm.mp (hp.mem_iff.mp hz);rfl
variable{hX:PH}{o:MO}
theorem Ep(x:P2 hX):P2 (hX.set h.length o):=λn o' e=>by let hn:=(yy.mp e).1;rw[Wd ⋯];show x n o' e
def cell(ns:x_ Int)(i:Nat):Int:=ns.getD i 0
theorem Er(ns:x_ Int)(i:Nat)(h:PH):gJ [.fl (Zb 0),.int i] h=.ok (.int (cell ns i)) h:=by
 let w:(gJ [.fl (Zb 0),.int i] h).W λp h'=>p=.int (cell ns i)/\h'=h:=by
  refine dY ?_;simp[yH,aO];split
  ·rename_i z;let z':i<ns.length:=⋯;let e:atI (Zb 0) (i:Int)=d_ (cell ns i):=wY (by simp[cell,z']);simp[e]
  ·rename_i z;rfl';have:ns.length<=i:=⋯;simp[cell,this]
 let⟨p,h',e,rfl,rfl⟩:=kG w;show e
inductive Kd where
 |settle
 |back (f l:Int)
 |other
deriving DecidableEq
abbrev HD:=Int×Kd
def reach(b:HD)(n:Int):Bool:=match b.2 with
 |.back f l=>decide (f<=n/\n<=l)
 |_=>false
def hit(n:Int)(B:x_ HD):y_ HD:=B.find? λb=>reach b n
def BS:x_ HD->x_ HD->x_ (HD×HD)
 |[],_=>[]
 |d::L,B=>match d.2,hit d.1 B with
  |.settle,_=>BS L []
  |_,a_ b=>(d,b)::BS L B
  |.back _ _,b_=>BS L (B++[d])
  |.other,b_=>BS L B
theorem KW(d:HD)(L B:x_ HD):BS (d::L) B=match d.2,hit d.1 B with
  |.settle,_=>BS L []
  |_,a_ b=>(d,b)::BS L B
  |.back _ _,b_=>BS L (B++[d])
  |.other,b_=>BS L B:=rfl
abbrev Uy(F:x_ HD):Prop:=F.Pairwise (λa b=>b.1<a.1)
def tkH(F B:x_ HD)(n:Int):Prop:=∃x∈BS F B,x.1.1=n
section
variable{α:Type}[DecidableEq α]
def ofH(h:α)(L:x_ (α×HD)):x_ HD:=(L.filter λx=>decide (x.1=h)).map (·.2)
def run:x_ (α×HD)->(α->x_ HD)->x_ (α×HD×HD)
 |[],_=>[]
 |d::L,B=>match d.2.2,hit d.2.1 (B d.1) with
  |.settle,_=>run L λh=>if h=d.1 then[] else B h
  |_,a_ b=>(d.1,d.2,b)::run L B
  |.back _ _,b_=>run L λh=>if h=d.1 then B h++[d.2] else B h
  |.other,b_=>run L B
theorem BU(d:α×HD)(L:x_ (α×HD))(B:α->x_ HD):run (d::L) B=match d.2.2,hit d.2.1 (B d.1) with
  |.settle,_=>run L λh=>if h=d.1 then[] else B h
  |_,a_ b=>(d.1,d.2,b)::run L B
  |.back _ _,b_=>run L λh=>if h=d.1 then B h++[d.2] else B h
  |.other,b_=>run L B:=rfl
theorem oQ(h:α):∀(L:x_ (α×HD))(B:α->x_ HD),((run L B).filter λx=>decide (x.1=h)).map (·.2)=BS (ofH h L) (B h)
 |[],_=>rfl
 |d::L,B=>by
  unfold ofH;by_cases e:d.1=h
  ·subst e;rw[Yb,if_pos (decide_eq_true rfl),zg];rw[BU,KW];split
   ·rw[oQ d.1 L];simp[ofH]
   ·rename_i b e1 e2;rw[Yb,if_pos (decide_eq_true rfl),zg,oQ d.1 L];rfl
   ·rename_i e1 e2;rw[oQ d.1 L];simp[ofH]
   ·rename_i e1 e2;rw[oQ d.1 L];simp[ofH]
  ·rw[Yb,if_neg (ke e)];let e':h≠d.1:=λz=>e z.symm;rw[BU];split
   ·rw[oQ h L];simp[ofH,e']
   ·rw[Yb,if_neg (ke e),oQ h L];rfl
   ·rw[oQ h L];simp[ofH,e']
   ·rw[oQ h L];rfl
def Tk(L:x_ (α×HD))(h:α)(n:Int):Prop:=∃x∈run L (λ_=>[]),x.1=h/\x.2.1.1=n
theorem Sw{L:x_ (α×HD)}{h:α}{n:Int}:Tk L h n↔tkH (ofH h L) [] n:=by
 unfold Tk tkH;rw[<-oQ h L λ_=>[]];constructor
 ·rintro⟨x,hx,rfl,rfl⟩;show⟨x.2,zm.mpr ⟨x,XT.mpr ⟨hx,by simp⟩,rfl⟩,rfl⟩
 ·rintro⟨y,hy,rfl⟩;let⟨x,hx,rfl⟩:=zm.mp hy;let⟨h1,h2⟩:=XT.mp hx;show⟨x,h1,ke h2,rfl⟩
end
structure Dd where
 nm:Str×Int
 seen:Seen
 kd:Kd
 act:x_ PV
def dP(d:Dd):PV:=.tup [pv d.nm,sv d.seen,.tup d.act]
def word:Kd->Str
 |.settle=>"settle"
 |.back _ _=>"back"
 |.other=>"other"
def WfA:Kd->Y9 0->Prop
 |.settle,a=>a=[.str "settle"]
 |.back f l,a=>a=[.str "back",.int f,.int l]
 |.other,a=>∃w r,a=.str w::r/\w≠"settle" /\ w≠"back"
structure Wf(d:Dd):Prop where
 len:d.seen.length<=100
 act:WfA d.kd d.act
 pl:d.act.all (PV.pl 37)=true
def hdD(d:Dd):HD:=(d.nm.2,d.kd)
def tri(d:Dd):Str×HD:=(d.nm.1,hdD d)
def tot(S:Seen):Int:=(S.map (·.2)).sum
def kyL(d:Dd):Zg 0:=[.inl (1+tot d.seen),.inr d.nm.1,.inl d.nm.2]
theorem dP0{d:Dd}:vIx (dP d) (.int 0) h=.ok (pv d.nm) h:=by unfold dP;simp
theorem dP1{d:Dd}:vIx (dP d) (.int 1) h=.ok (sv d.seen) h:=by unfold dP;simp
theorem dP2{d:Dd}:vIx (dP d) (.int 2) h=.ok (.tup d.act) h:=by unfold dP;simp
variable{p:Str×Int}
theorem pv1:vIx (pv p) (.int 1) h=.ok (.int p.2) h:=by unfold pv;simp
theorem oR{q:Str×Int}(e:pv p=pv q):p=q:=by unfold pv at e;let e':=PV.tup.inj e;simp at e';show Prod.ext e'.1 e'.2
theorem QK:(PV.tup [.str p.1,.int p.2]).ky 6=true:=rfl
theorem Nh(d:Dd)(hS:d.seen.length<=100)(h:PH)(Q:PV->PH->Prop)(k:∀h',P2 h'->Q (.int (1+tot d.seen)) h'):(AH [dP d] h).W Q:=by
 refine dY ?_;let hc:=Kz (js:=[b_]) (tg:=gN 0) (tst:=kQ) (elt:=F_ (mV 0) (o_ 1)) (m:=F_ (mV 0) (o_ 1)) (δ:=[a_ (dP d)]) (h:=h) (h1:=h) (ys:=d.seen) (emb:=pv)
  (λq=>d_ q.2) (by simp[dP1,Ux]) ⋯ (λq hq=>⟨_,rfl,λh3 _=>⟨rfl,by simp[gZ,pv1]⟩⟩)
 let es:d.seen.filterMap (λq=>a_ (PV.int q.2))=(d.seen.map (·.2)).map PV.int:=by rw[filterMap_some,Wp];rfl
 rw[es]at hc;let gs:(h++[MO.lst ((d.seen.map (·.2)).map PV.int)])[h.length]?=a_ (.lst ((d.seen.map (·.2)).map PV.int)):=aN;change (AF [a_ (dP d)] h).W _;unfold AF;rw[Ml,OO,QE,Rs.bind_ok,S8,Mm,hc];simp only[Rs.bind_ok,OQ,Mt gs,Kw,CA];show k _ (z_ _)
theorem Ph(d:Dd)(hS:d.seen.length<=100)(h:PH)(Q:PV->PH->Prop)(k:∀h',P2 h'->Q (tP (kyL d)) h'):(En [dP d] h).W Q:=by
 refine dY ?_;unfold Iq;rw[aO];simp[dP0];refine⟨[a_ (dP d),a_ (.str d.nm.1),d_ d.nm.2],by simp[pv],?_⟩;rfl';simp;refine Nh d hS _ _ λh' hx=>?_
 try simp
 show k h' hx
def ent(d:Dd):PV×PV:=(pv d.nm,dP d)
theorem Gj(p:Str×Int):∀es:x_ Dd,(aP (es.map ent) (pv p)).isSome=true↔p∈es.map (·.nm)
 |[]=>by simp[aP]
 |d::es=>by
  rw[zg,zg,zq]
  change(aP ((pv d.nm,dP d)::es.map ent) (pv p)).isSome=true↔_
  unfold aP;by_cases e:d.nm=p
  ·rw[if_pos (by rw[e])];simp[e]
  ·rw[if_neg (λz=>e (oR z)),Gj p es];constructor
   ·show .inr
   ·rintro(z|z)
    ·show(e z.symm).elim
    ·show z
variable{es:x_ Dd}
theorem Pi{d:Dd}(hu:∀x∈es,x.nm=d.nm->x=d):eK (es.map ent) (pv d.nm) (dP d)=(if d.nm∈es.map (·.nm) then es else es++[d]).map ent:=by
 unfold eK;let hl:=Gj d.nm es;by_cases e:d.nm∈es.map (·.nm)
 ·rw[if_pos e,if_pos (hl.mpr e),Wp];apply WW;intro x hx
  change(if(ent x).1=pv d.nm then((ent x).1,dP d) else ent x)=ent x
  by_cases z:(ent x).1=pv d.nm
  ·rw[if_pos z];have:=hu x hx (oR z);subst this;rfl
  ·rw[if_neg z]
 ·rw[Zs 0,if_neg (λz=>e (hl.mp z)),WB];rfl
theorem Pj(xs:x_ Dd):pP (xs.map kyL)=true:=by
 cases xs with
 |nil=>rfl
 |cons a r=>rw[zg];unfold pP;rw[zp];refine⟨rfl,zk.mpr λz hz=>?_⟩;let⟨q,_,rfl⟩:=zm.mp hz;rfl
theorem Gk{β:Type}(f:Dd->β)(hf:∀a b,f a=f b->a.nm=b.nm):∀{xs:x_ Dd},(xs.map (·.nm)).Nodup->(xs.map f).Nodup:=λ{xs} h=>by unfold List.Nodup at*;rw[Xi] at*;show h.imp λkz e=>kz (hf _ _ e)
theorem Sx(a b:Dd)(e:kyL a=kyL b):a.nm=b.nm:=by unfold kyL at e;simp at e;show Prod.ext e.2.1 e.2.2
theorem qQ(x:P2 hX)(hn:h.length<=n):P2 (hX.set n o):=λm o' e=>by have:=(yy.mp e).1;rw[Wd ⋯];show x m o' e
abbrev Es(os:x_ Dd):Prop:=os.Pairwise (λa b=>cD (kyL b) (kyL a)=false)
theorem Et(U ds:x_ Dd)(hU:∀d∈ds,d∈U)(hlU:U.length<=63)(hw:∀d∈ds,Wf d)(hl:ds.length<=1000)(hu:∀d∈ds,∀e∈ds,d.nm=e.nm->d=e)(n:Nat)(h:PH)(g:h[n]?=a_ (.lst (ds.map dP)))(Q:PV->PH->Prop)
  (k:∀os l h',P2 h'->h.length<=l->h'[l]?=a_ (.lst (os.map dP))->(os.map (·.nm)).Nodup->(∀d,d∈os↔d∈ds)->Es os->Q (.ref l) h'):(iR [.ref n] h).W Q:=by
 refine dY ?_;unfold tX;rw[aO];simp;let x0:P2 (h++[MO.dK []]):=z_ _;let g0:bX (h++[MO.dK []]) h.length=a_ (([]:x_ Dd).map ent):=Jw aN;generalize h++[MO.dK []]=hA at x0 g0;rfl';rw[aO];refine qF (n:=n) (xs:=ds.map dP) (h1:=hA) (λq δ h'=>∃es:x_ Dd,P2 h'/\bX h' h.length=a_ (es.map ent)/\(es.map (·.nm)).Nodup/\(∀d,d∈es↔d∈ds.take q)/\es.length<=q/\∃x2,δ=[c_ n,Z8 0,x2]) (by simp) (x0 _ _ g) ⟨[],x0,g0,by simp,by simp,by simp,_,rfl⟩ ?_ ?_ ?_
 ·rintro q δ h' hq ⟨es,x,_⟩;show x _ _ g
 ·rintro q y δ h' hy ⟨es,x,t,nd,mem,le,x2,rfl⟩;rw[zt]at hy;let⟨d,hd,rfl⟩:=Wb.mp hy;let fi:q<ds.length:=(yy.mp hd).1;let htk:ds.take (q+1)=ds.take q++[d]:=by rw[WQ,hd];rfl
  let bt:d∈ds:=Wn hd;let c6:∀e∈es,e∈ds:=λe he=>List.mem_of_mem_take ((mem e).mp he);refine⟨_,rfl,?_⟩;let hp:yB (.ref h.length) (pv d.nm) (dP d) h'=a_ (h'.set h.length (.dD (eK (es.map ent) (pv d.nm) (dP d)))):=Ig t QK (by rw[za];omega);rw[Pi λe he z=>hu e (c6 e he) d bt z]at hp;let hh:∃o,h'[h.length]?=a_ o:=let ⟨o,g,_⟩:=cH t;⟨o,g⟩;let⟨o,ho⟩:=hh;unfold vU;simp[dP0];refine⟨_,hp,Ep x,_,rT (cG ho),?_,?_,?_⟩
  ·split
   ·show nd
   ·rename_i z;rw[WB,X0];refine⟨nd,by simp,λa ha b hb e=>?_⟩;rw[List.map_singleton,z7]at hb;subst hb e;show z (ke ha)
  ·intro e;rw[htk];split
   ·rename_i z;rw[mem e,Wc,z7];constructor
    ·show .inl
    ·rintro(z'|rfl)
     ·show z'
     ·let⟨e',gm,en⟩:=zm.mp (show e.nm∈es.map (·.nm) by simpa using z)
      have:=hu e' (c6 e' gm) e bt en;subst this;show(mem e').mp gm
   ·rw[Wc,Wc,mem e]
  ·split
   ·omega
   ·simp;omega
 ·rintro δ h' ⟨es,x,t,nd,mem,le,x2,rfl⟩;let hle:es.length<=63:=by
   let h1:(es.map (·.nm)).length<=(U.map (·.nm)).length:=X5 nd λp hp=>by let⟨d,hd,rfl⟩:=zm.mp hp;show zm.mpr ⟨d,hU d (List.mem_of_mem_take ((mem d).mp hd)),rfl⟩
   simp at h1;omega
  let⟨o,ho,rg,_⟩:=cH t;rfl';simp[rg,P8 t];let x1:Ext h' (h'++[MO.vw 1 h.length]):=z_ _;let ei:mR (.ref h'.length) (h'++[MO.vw 1 h.length])=a_ (es.map dP):=by rw[G7 aN (dZ x1 t),Wp];rfl
  generalize h'++[MO.vw 1 h.length]=h2 at x1 ei;let ko:∀d,d∈es↔d∈ds:=λd=>by rw[mem d,za,Ya]
  refine Jz (key:=kyL) (emb:=dP) (S:=shape [.inl 0,.inr "",.inl 0]) ei ⋯ (Pj es) (λ_ _=>rfl) (Gk kyL Sx nd) (λd hd h Q kk=>Ph d (hw d ((ko d).mp hd)).len h Q kk) λos h3 x3 hp ho=>?_;refine k os h3.length _ ((x.trans x1).trans (x3.trans (z_ _))) (Wu x.len (Wu x1.len x3.len)) aN ((hp.map _).nodup_iff.mpr nd) (λd=>(hp.mem_iff).trans (ko d)) ho
theorem zX(ds:x_ Dd)(hw:∀d∈ds,Wf d)(hl:ds.length<=63)(hu:∀d∈ds,∀e∈ds,d.nm=e.nm->d=e)(n:Nat)(h:PH)(g:h[n]?=a_ (.lst (ds.map dP)))(Q:PV->PH->Prop)
  (k:∀os l h',P2 h'->h'[l]?=a_ (.lst (os.map dP))->(os.map (·.nm)).Nodup->(∀d,d∈os↔d∈ds)->Es os->Q (.ref l) h'):(iR [.ref n] h).W Q:=by
 show Et ds ds (λ_ h=>h) hl hw ⋯ hu n h g Q λos l h' a _ b c d e=>k os l h' a b c d e
def lk{β:Type}:x_ (Str×β)->Str->y_ β
 |[],_=>b_
 |p::r,w=>if p.1=w then a_ p.2 else lk r w
def dpt{β:Type}(R:x_ (Str×β))(w:Str)(m:β):x_ (Str×β):=if(lk R w).isSome then R.map (λp=>if p.1=w then(p.1,m) else p) else R++[(w,m)]
def em{β:Type}(f:β->PV)(R:x_ (Str×β)):x_ (Key×PV):=R.map λp=>(.inr p.1,f p.2)
theorem JF{β:Type}(f:β->PV)(w:Str):∀R:x_ (Str×β),aP (em f R) (.inr w)=(lk R w).map f
 |[]=>rfl
 |p::r=>by
  change aP ((YQ p.1,f p.2)::em f r) (.inr w)=_
  unfold aP lk;by_cases e:p.1=w
  ·rw[if_pos e,if_pos (by rw[e])];rfl
  ·rw[Zs 0,if_neg (ke e)];show JF f w r
theorem QL{β:Type}(f:β->PV)(R:x_ (Str×β))(w:Str)(m:β):eK (em f R) (.inr w) (f m)=em f (dpt R w m):=by
 unfold eK dpt;rw[JF];cases lk R w with
 |none=>simp[em]
 |some z=>
  simp only[YU,YR,if_true];unfold em;rw[Wp,Wp];apply WW;intro p _;by_cases e:p.1=w
  ·simp[e]
  ·simp[e]
theorem Ni{β:Type}(w:Str)(m:β)(x:Str):∀R:x_ (Str×β),lk (R.map λp=>if p.1=w then(p.1,m) else p) x=if x=w then(lk R x).map (λ_=>m) else lk R x
 |[]=>by simp[lk]
 |p::r=>by
  rw[zg];let ih:=Ni w m x r;by_cases e:p.1=w
  ·rw[if_pos e];unfold lk;dsimp only;by_cases z:p.1=x
   ·rw[if_pos z,if_pos z,if_pos (z.symm.trans e)];rfl
   ·rw[if_neg z,if_neg z,ih]
  ·rw[Zs 0];unfold lk;by_cases z:p.1=x
   ·rw[if_pos z,if_pos z,if_neg (λq=>e (z.trans q))]
   ·rw[if_neg z,if_neg z,ih]
theorem Nj{β:Type}(w:Str)(m:β)(x:Str):∀R:x_ (Str×β),lk (R++[(w,m)]) x=match lk R x with|some y=>a_ y|none=>if x=w then a_ m else b_
 |[]=>by
  change(if w=x then a_ m else b_)=if x=w then a_ m else b_
  by_cases e:w=x
  ·rw[if_pos e,if_pos e.symm]
  ·rw[Zs 0,if_neg λz=>e z.symm]
 |p::r=>by
  rw[YE];unfold lk;by_cases z:p.1=x
  ·rw[if_pos z,if_pos z]
  ·rw[if_neg z,if_neg z,Nj w m x r]
theorem Iv{β:Type}(R:x_ (Str×β))(w:Str)(m:β)(x:Str):lk (dpt R w m) x=if x=w then a_ m else lk R x:=by
 unfold dpt;cases e:lk R w with
 |none=>
  rw[if_neg (by simp),Nj];by_cases z:x=w
  ·subst z;rw[e,Zc 0]
  ·rw[if_neg z];cases lk R x <;> simp[z]
 |some y=>
  rw[if_pos (by simp),Ni];by_cases z:x=w
  ·subst z;rw[Zc 0,Zc 0,e];rfl
  ·rw[if_neg z,if_neg z]
variable{w:Str}
theorem Pk{β:Type}{R:x_ (Str×β)}{m:β}:(dpt R w m).length<=R.length+1:=by unfold dpt;split <;> simp
def nmL(d:Dd):Zg 0:=[.inr d.nm.1,.inl d.nm.2]
theorem Pl(xs:x_ Dd):pP (xs.map nmL)=true:=by
 cases xs with
 |nil=>rfl
 |cons a r=>rw[zg];unfold pP;rw[zp];refine⟨rfl,zk.mpr λz hz=>?_⟩;let⟨q,_,rfl⟩:=zm.mp hz;rfl
theorem Sy(a b:Dd)(e:nmL a=nmL b):a.nm=b.nm:=by unfold nmL at e;simp at e;show Prod.ext e.1 e.2
theorem Pm(d:Dd)(h:PH)(Q:PV->PH->Prop)(k:Q (pv d.nm) h):(nJ [dP d] h).W Q:=by refine dY ?_;simp[yK,dP0];show k
abbrev Iw(n:Int)(bs:x_ Dd):y_ Dd:=bs.find? λb=>reach (hdD b) n
theorem Nk(n:Int)(bs:x_ Dd)(hb:∀b∈bs,Wf b/\∃f l,b.kd=.back f l)(hz:bs.length<=100)(m:Nat)(h:PH)(g:h[m]?=a_ (.lst (bs.map dP)))(Q:PV->PH->Prop)(k:Q (match Iw n bs with|some b=>pv b.nm|none=>.non) h):(oP [.int n,.ref m] h).W Q:=by
 refine dY ?_;unfold tY;rw[aO];refine qF (n:=m) (xs:=bs.map dP) (h1:=h) (λq δ h'=>h'=h/\(∀b∈bs.take q,reach (hdD b) n=false)/\∃x2 x3 x4 x5,δ=[d_ n,c_ m,x2,x3,x4,x5]) (by simp) g ⟨rfl,by simp,_,_,_,_,rfl⟩ ?_ ?_ ?_
 ·rintro q δ h' hq ⟨rfl,_⟩;show g
 ·rintro q y δ h' hy ⟨rfl,nr,x2,x3,x4,x5,rfl⟩;rw[zt]at hy;let⟨d,hd,rfl⟩:=Wb.mp hy;let fi:q<bs.length:=(yy.mp hd).1;let⟨wf,f,l,ek⟩:=hb d (Wn hd);let ea:d.act=[.str "back",.int f,.int l]:=by have:=wf.act;rw[ek]at this;show this
  let er:reach (hdD d) n=decide (f<=n/\n<=l):=by
   unfold reach
   change(match d.kd with|.back f l=>decide (f<=n/\n<=l)|_=>false)=_
   rw[ek]
  let split1:bs=bs.take q++d::bs.drop (q+1):=by let e1:bs.drop q=d::bs.drop (q+1):=drop_cons hd;rw[<-e1,List.take_append_drop]
  refine⟨_,rfl,?_⟩;unfold vW;rw[aO];simp[dP2,ea];rfl';simp[dP0];let fin:f<=n->n<=l->Q (pv d.nm) h':=λh1 h2=>by
   have:Iw n bs=a_ d:=by
    unfold Iw;rw[split1,List.find?_append,List.find?_eq_none.mpr (λb hb=>by rw[nr b hb];decide),List.find?_cons_of_pos (by rw[show reach (hdD d) n=decide (f<=n/\n<=l) from er];show decide_eq_true ⟨h1,h2⟩)]
    rfl
   rw[this]at k;show k
  let ng:¬ (f<=n/\n<=l)->∀b∈bs.take (q+1),reach (hdD b) n=false:=λz b hb=>by
   rw[WQ,hd,Wc]at hb;rcases hb with hb|hb
   ·show nr b hb
   ·rw[show(a_ d).toList=[d] from rfl,z7]at hb
    subst hb;rw[er];show decide_eq_false z
  split
  ·rename_i z1;split
   ·rename_i z2;show fin z1 z2
   ·rename_i z2;show ng λz=>z2 z.2
  ·rename_i z1;show ng λz=>z1 z.1
 ·rintro δ h' ⟨rfl,nr,x2,x3,x4,x5,rfl⟩;rw[za,Ya]at nr;have:Iw n bs=b_:=List.find?_eq_none.mpr λb hb=>by rw[nr b hb];decide
  rw[this]at k;rfl';simp;show k
def tk(x:Str×HD×HD):PV×PV:=(pv (x.1,x.2.1.1),pv (x.1,x.2.2.1))
theorem Eu(p:Str×Int):∀T:x_ (Str×HD×HD),(aP (T.map tk) (pv p)).isSome=true ↔ ∃x∈T,x.1=p.1/\x.2.1.1=p.2
 |[]=>by simp[aP]
 |y::T=>by
  rw[zg]
  change(aP ((pv (y.1,y.2.1.1),pv (y.1,y.2.2.1))::T.map tk) (pv p)).isSome=true↔_
  unfold aP;by_cases e:(y.1,y.2.1.1)=p
  ·rw[if_pos (by rw[e])];constructor
   ·intro _;show⟨y,y8,by rw[<-e],by rw[<-e]⟩
   ·intro _;rfl
  ·rw[if_neg (λz=>e (oR z)),Eu p T];constructor
   ·rintro⟨x,hx,q⟩;show⟨x,y9 _ hx,q⟩
   ·rintro⟨x,hx,q1,q2⟩;rcases zq.mp hx with rfl|hx
    ·show(e (Prod.ext q1 q2)).elim
    ·show⟨x,hx,q1,q2⟩
theorem Pn(n:Int)(bs:x_ Dd):hit n (bs.map hdD)=(Iw n bs).map hdD:=by unfold hit Iw;rw[List.find?_map];rfl
theorem Po{d:Dd}(w:Wf d):∃x r,d.act=.str x::r/\(x="settle" ↔ d.kd=.settle)/\(x="back" ↔ ∃f l,d.kd=.back f l):=by
 let h:=w.act;cases e:d.kd with
 |settle=>rw[e]at h;show⟨"settle",[],h,by simp,by simp;decide⟩
 |back f l=>rw[e]at h;show⟨"back",_,h,by simp;decide,by simp⟩
 |other=>rw[e]at h;let⟨x,r,e1,n1,n2⟩:=h;show⟨x,r,e1,by simp[n1],by simp[n2]⟩
abbrev Nl(L:x_ Dd):Prop:=L.Pairwise (λa b=>cD (nmL a) (nmL b)=false)
structure BOk(sl lb:Nat)(q:Nat)(h':PH)(R:x_ (Str×Nat))(Bd:Str->x_ Dd):Prop where
 at':∀w m,lk R w=some m->h'[m]?=some (.lst ((Bd w).map dP))/\lb<m/\m≠sl
 no:∀w,lk R w=none->Bd w=[]
 inj:∀w w' m,lk R w=some m->lk R w'=some m->w=w'
 back:∀w,∀b∈Bd w,b.nm.1=w/\Wf b/\∃f l,b.kd=.back f l
 len:∀w,(Bd w).length<=q
 lenR:R.length<=q
variable{Bd:Str->x_ Dd}{R:x_ (Str×Nat)}{h':PH}{lb sl:Nat}
theorem BOk.get{q:Nat}{h2:PH}(b:BOk sl lb q h' R Bd)(e:Ext h' h2):BOk sl lb q h2 R Bd:=⟨λw m z=>let ⟨a,c,d⟩:=b.at' w m z;⟨e _ _ a,c,d⟩,b.no,b.inj,b.back,b.len,b.lenR⟩
theorem BOk.up{q:Nat}(b:BOk sl lb q h' R Bd):BOk sl lb (q+1) h' R Bd:=⟨b.at',b.no,b.inj,b.back,λw=>XZ (b.len w),XZ b.lenR⟩
theorem BOk.aside{q:Nat}(b:BOk sl lb q h' R Bd)(hn:n<=lb):BOk sl lb q (h'.set n o) R Bd:=⟨λw m z=>let ⟨a,c,d⟩:=b.at' w m z;⟨by rw[Wd ⋯];show a,c,d⟩,b.no,b.inj,b.back,b.len,b.lenR⟩
theorem BOk.skip{q:Nat}(b:BOk sl lb q h' R Bd)(hn:∀x,lk R x≠a_ n):BOk sl lb q (h'.set n o) R Bd:=⟨λw m z=>let ⟨a,c,d⟩:=b.at' w m z;⟨by rw[Wd (λe:n=m=>hn w (e▸z))];show a,c,d⟩,b.no,b.inj,b.back,b.len,b.lenR⟩
variable{m:Nat}
theorem BOk.put{q:Nat}{bs:x_ Dd}(b:BOk sl lb q h' R Bd)(hm:h'[m]?=a_ (.lst (bs.map dP)))(h1:lb<m)(h2:m≠sl)(hf:∀x,lk R x≠a_ m)(hb:∀b∈bs,b.nm.1=w/\Wf b/\∃f l,b.kd=.back f l)(hl:bs.length<=q+1):BOk sl lb (q+1) h' (dpt R w m) (λx=>if x=w then bs else Bd x) where
 at':=λx m' z=>by
  rw[Iv]at z;by_cases e:x=w
  ·rw[if_pos e]at z⊢;cases z
   show⟨hm,h1,h2⟩
  ·rw[Zs 0]at z⊢;show b.at' x m' z
 no:=λx z=>by
  rw[Iv]at z;by_cases e:x=w
  ·rw[if_pos e]at z;cases z
  ·rw[Zs 0]at z⊢;show b.no x z
 inj:=λx y m' z1 z2=>by
  rw[Iv]at z1 z2;by_cases e1:x=w <;> by_cases e2:y=w
  ·rw[e1,e2]
  ·rw[if_pos e1]at z1;rw[if_neg e2]at z2;cases z1;show(hf y z2).elim
  ·rw[if_neg e1]at z1;rw[if_pos e2]at z2;cases z2;show(hf x z1).elim
  ·rw[if_neg e1]at z1;rw[if_neg e2]at z2;show b.inj x y m' z1 z2
 back:=λx y hy=>by
  by_cases e:x=w
  ·simp only[if_pos e]at hy;rw[e];show hb y hy
  ·simp only[Zs 0]at hy;show b.back x y hy
 len:=λx=>by
  by_cases e:x=w
  ·simp only[if_pos e];show hl
  ·simp only[Zs 0];show XZ (b.len x)
 lenR:=Wu Pk (Nat.succ_le_succ b.lenR)
theorem BOk.grow{q:Nat}{d:Dd}(b:BOk sl lb q h' R Bd)(hm:lk R d.nm.1=a_ m)(hw:Wf d)(hk:∃f l,d.kd=.back f l):
  BOk sl lb (q+1) (h'.set m (.lst ((Bd d.nm.1++[d]).map dP))) R (λx=>if x=d.nm.1 then Bd d.nm.1++[d] else Bd x) where
 at':=λx m' z=>by
  let⟨a,c,e⟩:=b.at' x m' z;by_cases ew:x=d.nm.1
  ·subst ew;rw[hm]at z;cases z;rw[Zc 0];show⟨cG a,c,e⟩
  ·rw[if_neg ew,Wd (λzz:m=m'=>ew (b.inj _ _ m' z (zz▸hm)))];show⟨a,c,e⟩
 no:=λx z=>by
  by_cases e:x=d.nm.1
  ·rw[e,hm]at z;cases z
  ·rw[Zs 0];show b.no x z
 inj:=b.inj
 back:=λx y hy=>by
  by_cases e:x=d.nm.1
  ·simp only[if_pos e]at hy;rcases Wc.mp hy with hy|hy
   ·rw[e];show b.back _ y hy
   ·rw[z7.mp hy];show⟨e.symm,hw,hk⟩
  ·simp only[Zs 0]at hy;show b.back x y hy
 len:=λx=>by
  by_cases e:x=d.nm.1
  ·simp only[if_pos e];rw[W5];show Nat.succ_le_succ (b.len _)
  ·simp only[Zs 0];show XZ (b.len x)
 lenR:=XZ b.lenR
def TI(h:PH)(n sl:Nat)(L:x_ Dd)(q:Nat)(δ:Ev)(h':PH):Prop:=∃T R Bd,P2 h'/\h'[sl]?=a_ (.lst (L.map dP))/\bX h' h.length=a_ (T.map tk)/\h'[h.length+1]?=a_ (.dK (em PV.ref R))/\BOk sl (h.length+1) q h' R Bd/\T.length<=q/\(∀x∈T,(x.1,x.2.1.1)∈(L.take q).map (·.nm))/\
   run (L.map tri) (λ_=>[])=T++run ((L.drop q).map tri) (λw=>(Bd w).map hdD)/\∃x3 x4 x5 x6 x7,δ=[c_ n,Z8 0,c_ (h.length+1),x3,x4,x5,x6,x7]
theorem KY(os:x_ Dd)(hw:∀d∈os,Wf d)(hl:os.length<=63)(nd:(os.map (·.nm)).Nodup)(n:Nat)(h:PH)(g:h[n]?=a_ (.lst (os.map dP)))(Q:PV->PH->Prop)
  (k:∀L l h',P2 h'->L.Perm os->Nl L->bX h' l=a_ ((run (L.map tri) λ_=>[]).map tk)->Q (.ref l) h'):(vX [.ref n] h).W Q:=by
 refine dY ?_;unfold BQ;rw[aO];simp;rfl';rw[aO];simp;let x0:P2 (h++[MO.dK [],MO.dK []]):=z_ _;let gt:bX (h++[MO.dK [],MO.dK []]) h.length=a_ (([]:x_ (Str×HD×HD)).map tk):=Jw (by simp);let gb:(h++[MO.dK [],MO.dK []])[h.length+1]?=a_ (.dK (em PV.ref [])):=by simp[em]
 generalize h++[MO.dK [],MO.dK []]=hA at x0 gt gb;rfl';rw[aO];let gA:=x0 _ _ g
 -- the sort comes first
 let xw:(mS nJ true (.ref n) hA).W λp h2=>∃L h3,p=.ref h3.length/\h2=h3++[.lst (L.map dP)]/\Ext hA h3/\L.Perm os/\Nl L:=Jz (key:=nmL) (emb:=dP) (S:=shape [.inr "",.inl 0]) (BE gA) ⋯ (Pl os) (λ_ _=>rfl) (Gk nmL Sy nd) (λd hd h Q kk=>Pm d h Q (kk h (Ext.refl h))) λL h3 x3 hp ho=>⟨L,h3,rfl,rfl,x3,hp,ho⟩;let⟨p,h2,e2,L,h3,rfl,rfl,x3,hp,hf⟩:=kG xw;let hlA:h.length+1<hA.length:=(yy.mp gb).1;let hl3:hA.length<=h3.length:=x3.len;let x1:P2 (h3++[.lst (L.map dP)]):=x0.trans (x3.trans (z_ _));let uw:=dZ (x3.trans (Ext.app h3 [.lst (L.map dP)])) gt;let tm:=(x3.trans (Ext.app h3 [.lst (L.map dP)])) _ _ gb;let gs:(h3++[.lst (L.map dP)])[h3.length]?=a_ (.lst (L.map dP)):=aN;let ju:h.length+1<h3.length:=⋯;generalize h3.length=sl at e2 gs ju;generalize h3++[.lst (L.map dP)]=hB at e2 x1 uw tm gs;let w6:∀d∈L,Wf d:=λd hd=>hw d (hp.mem_iff.mp hd);let nh:(L.map (·.nm)).Nodup:=(hp.map _).nodup_iff.mpr nd;let hlL:L.length<=63:=by rw[hp.length_eq];show hl
 refine qF (n:=sl) (xs:=L.map dP) (h1:=hB) (TI h n sl L) ?_ gs ?_ ?_ ?_ ?_
 ·simp[e2]
 ·show⟨[],[],λ_=>[],x1,gs,uw,tm,⟨λw m z=>(by cases z),λ_ _=>rfl,λw w' m z=>(by cases z),λw b hb=>(by cases hb),λ_=>z8 _,z8 _⟩,z8 _,λx hx=>(by cases hx),by simp,_,_,_,_,_,rfl⟩
 ·rintro q δ h' hq ⟨T,R,Bd,x,g1,_⟩;show g1
 ·rintro q y δ h' hy ⟨T,R,Bd,x,g1,g2,g3,b,lT,nT,hr,x3,x4,x5,x6,x7,rfl⟩;rw[zt]at hy;let⟨d,n9,rfl⟩:=Wb.mp hy;let fi:q<L.length:=(yy.mp n9).1;let uu:L.drop q=d::L.drop (q+1):=drop_cons n9;let htk:L.take (q+1)=L.take q++[d]:=by rw[WQ,n9];rfl
  let wf:=w6 d (Wn n9);let⟨wd,r,ea,es,eb⟩:=Po wf;rw[uu,zg,BU]at hr;let qj:d.nm∉(L.take q).map (·.nm):=λz=>by
   let e1:L.map (·.nm)=(L.take q).map (·.nm)++(d::L.drop (q+1)).map (·.nm):=by rw[<-WB,<-uu,List.take_append_drop]
   rw[e1,X0]at nh;show nh.2.2 _ z _ (by simp) rfl
  let mn:∀x∈T,(x.1,x.2.1.1)∈(L.take (q+1)).map (·.nm):=λx hx=>by rw[htk,WB];show WR _ (nT x hx)
  refine⟨_,rfl,?_⟩;unfold BP;rw[aO];simp[dP0];refine⟨[c_ n,Z8 0,c_ (h.length+1),a_ (dP d),a_ (.str d.nm.1),d_ d.nm.2,x6,x7],by simp[pv],?_⟩;rfl';rw[aO];simp[dP2,ea];rfl';rw[aO];let ku:h.length+1<h'.length:=(yy.mp g3).1;let yf:sl<h'.length:=(yy.mp g1).1;by_cases c1:wd="settle"
  ·let ek:=es.mp c1;simp[c1,aO];let y1:Ext h' (h'++[MO.lst []]):=z_ _;let y2:(h'++[MO.lst []])[h'.length]?=a_ (.lst (([]:x_ Dd).map dP)):=aN;generalize h'++[MO.lst []]=h2 at y1 y2;let tf:=y1 _ _ g3;let gu:yB (.ref (h.length+1)) (.str d.nm.1) (.ref h'.length) h2=a_ (h2.set (h.length+1) (.dK (em PV.ref (dpt R d.nm.1 h'.length)))):=by rw[Jv tf (by unfold em;rw[za];have:=b.lenR;omega),QL]
   let b1:=((b.get y1).put (w:=d.nm.1) (bs:=[]) y2 ku ⋯ (λx z=>by have:=(yy.mp (b.at' x _ z).1).1;omega) (λb hb=>by cases hb) (z8 _)).aside (n:=h.length+1) (o:=.dK (em PV.ref (dpt R d.nm.1 h'.length))) (zd _)
   let x2:P2 (h2.set (h.length+1) (.dK (em PV.ref (dpt R d.nm.1 h'.length)))):=qQ (x.trans y1) ⋯;let yw:(h2.set (h.length+1) (.dK (em PV.ref (dpt R d.nm.1 h'.length))))[sl]?=a_ (.lst (L.map dP)):=bC (y1 _ _ g1) ⋯;let⟨o,ho,_,hh⟩:=cH (dZ y1 g2);let vo:=hh _ (bC (n:=h.length+1) (m:=h.length) (o':=.dK (em PV.ref (dpt R d.nm.1 h'.length))) ho ⋯);refine⟨_,gu,now ?_⟩;simp;refine⟨T,_,_,x2,yw,vo,cG tf,b1,⋯,mn,?_,_,_,_,_,_,rfl⟩;rw[hr,show(tri d).2.2=.settle from ek]
   simp only;congr 2;funext w
   change(if w=d.nm.1 then[] else(Bd w).map hdD)=_
   by_cases e:w=d.nm.1
   ·rw[if_pos e,if_pos e];rfl
   ·rw[Zs 0,Zs 0]
  ·let ek:d.kd≠.settle:=λz=>c1 (es.mpr z);simp[c1];rfl';rw[aO]
   -- what the hand has so far
   let y1:Ext h' (h'++[MO.lst []]):=z_ _;let y2:(h'++[MO.lst []])[h'.length]?=a_ (.lst (([]:x_ Dd).map dP)):=aN;let rg:dR (.ref (h.length+1)) h'=true:=Bv g3;let cp:=Ju (x:=d.nm.1) (z:=.ref h'.length) (y1 _ _ g3);simp[rg];generalize h'++[MO.lst []]=h2 at y1 y2 cp;rw[JF]at cp;let b1:=b.get y1;let xr:∃m,(((lk R d.nm.1).map PV.ref).getD (.ref h'.length))=.ref m/\h2[m]?=a_ (.lst ((Bd d.nm.1).map dP)):=by
    cases e:lk R d.nm.1 with
    |some m=>exact⟨m,rfl,(b1.at' _ _ e).1⟩
    |none=>exact⟨h'.length,rfl,by rw[b.no _ e];show y2⟩
   let⟨m,yc,we⟩:=xr;rw[yc]at cp;simp[cp];refine Nk d.nm.2 (Bd d.nm.1) (λz hz=>(b.back _ z hz).2) (by have:=b.len d.nm.1;omega) m h2 we _ ?_;let hh:=Pn d.nm.2 (Bd d.nm.1);let fj:=y1 _ _ g1;let m6:=dZ y1 g2;let og:=y1 _ _ g3;let o6:=x.trans y1;cases eh:Iw d.nm.2 (Bd d.nm.1) with
   |some z=>
    rw[eh]at hh;simp only[eh];rfl';let wc:z.nm.1=d.nm.1:=(b.back _ z (List.mem_of_find?_eq_some eh)).1;let gu:yB (.ref h.length) (pv d.nm) (pv z.nm) h2=a_ (h2.set h.length (.dD (eK (T.map tk) (pv d.nm) (pv z.nm)))):=Ig m6 QK (by rw[za];omega);let pe:eK (T.map tk) (pv d.nm) (pv z.nm)=(T++[(d.nm.1,hdD d,hdD z)]).map tk:=by
     unfold eK;rw[if_neg (λzz=>by let⟨x,hx,e1,e2⟩:=(Eu d.nm T).mp zz;show qj (by have:=nT x hx;rw[e1,e2]at this;show this)),WB]
     congr 1;let e3:pv z.nm=pv (d.nm.1,z.nm.2):=by rw[<-wc]
     show[(pv d.nm,pv z.nm)]=[(pv (d.nm.1,d.nm.2),pv (d.nm.1,z.nm.2))]
     rw[e3]
    rw[pe]at gu;let⟨o,ho,_,_⟩:=cH m6;let nz:xY (pv z.nm)=false:=rfl;simp[nz,dP0];refine⟨_,gu,T++[(d.nm.1,hdD d,hdD z)],R,Bd,qQ o6 (zd _),bC fj ⋯,rT (cG ho),bC og ⋯,(b1.aside ⋯).up,by simp;omega,?_,?_,_,_,_,_,_,rfl⟩
    ·intro x hx;rcases Wc.mp hx with hx|hx
     ·show mn x hx
     ·rw[z7.mp hx,htk,WB];show ze _ (by simp[hdD])
    ·rw[hr];let e1:hit (tri d).2.1 ((Bd (tri d).1).map hdD)=a_ (hdD z):=hh;rw[Yt];congr 1
     change(match d.kd,hit d.nm.2 ((Bd d.nm.1).map hdD) with|.settle,_=>_|_,a_ b=>_|.back _ _,b_=>_|.other,b_=>_)=_
     rw[hh];cases jo:d.kd with
     |settle=>exact(ek jo).elim
     |back f l=>rfl
     |other=>rfl
   |none=>
    rw[eh]at hh;simp only[eh];rfl';simp;by_cases c2:wd="back"
    ·let⟨f,l,jo⟩:=eb.mp c2;let qv:dR (.ref (h.length+1)) h2=true:=Bv og;simp[c2,qv];let z1:Ext h2 (h2++[MO.lst []]):=z_ _;let z2:(h2++[MO.lst []])[h2.length]?=a_ (.lst (([]:x_ Dd).map dP)):=aN;let cy:h'.length<=h2.length:=y1.len;generalize h2++[MO.lst []]=h4 at z1 z2;let mz:=z1 _ _ og;let jh:=KH (x:=d.nm.1) (z:=.ref h2.length) mz (by unfold em;rw[za];have:=b.lenR;omega);rw[JF]at jh;let t7:=o6.trans z1;let jj:run (L.map tri) (λ_=>[])=T++run ((L.drop (q+1)).map tri) (λw=>(if w=d.nm.1 then Bd d.nm.1++[d] else Bd w).map hdD):=by
      rw[hr];congr 1
      change(match d.kd,hit d.nm.2 ((Bd d.nm.1).map hdD) with|.settle,_=>_|_,a_ b=>_|.back _ _,b_=>_|.other,b_=>_)=_
      rw[hh,jo]
      change run _ _=run _ _
      congr 1;funext w
      change(if w=d.nm.1 then(Bd w).map hdD++[hdD d] else(Bd w).map hdD)=_
      by_cases e:w=d.nm.1
      ·rw[if_pos e,if_pos e,e,WB];rfl
      ·rw[Zs 0,Zs 0]
     cases e:lk R d.nm.1 with
     |some m'=>rw[e]at jh;let b4:=b1.get z1;let⟨q1,q2,q3⟩:=b4.at' _ _ e;simp[jh,fB q1];let j4:=dM (p:=dP d) q1 (by rw[za];have:=b.len d.nm.1;omega);let b5:=b4.grow e wf ⟨f,l,jo⟩;rw[show(Bd d.nm.1).map dP++[dP d]=(Bd d.nm.1++[d]).map dP by simp]at j4;rw[j4,CA];let⟨o,ho,_,p7⟩:=cH (dZ z1 m6);show⟨T,R,_,qQ t7 ⋯,bC (z1 _ _ fj) ⋯,p7 _ (bC ho ⋯),bC mz ⋯,b5,⋯,mn,jj,_,_,_,_,_,rfl⟩
     |none=>
      rw[e]at jh;simp at jh;rw[QL]at jh;let q1:(h4.set (h.length+1) (.dK (em PV.ref (dpt R d.nm.1 h2.length))))[h2.length]?=a_ (.lst (([]:x_ Dd).map dP)):=bC z2 ⋯;simp[jh,fB q1];let j4:=dM (p:=dP d) q1 (by simp);rw[show(([]:x_ Dd).map dP++[dP d])=[d].map dP from rfl]at j4
      rw[j4,CA];let nox:∀x,lk R x≠a_ h2.length:=λx z=>by have:=(yy.mp (b1.at' x _ z).1).1;omega
      let b6:=((b1.get z1).aside (n:=h.length+1) (o:=.dK (em PV.ref (dpt R d.nm.1 h2.length))) (zd _)).skip (n:=h2.length) (o:=.lst ([d].map dP)) nox;let b7:=b6.put (w:=d.nm.1) (bs:=[d]) (m:=h2.length) (cG q1) ⋯ ⋯ nox (λy hy=>by rw[z7.mp hy];show⟨rfl,wf,f,l,jo⟩) (by simp);let eB:Bd d.nm.1=[]:=b.no _ e;rw[eB]at jj;let⟨o,ho,_,p7⟩:=cH (dZ z1 m6);refine⟨T,_,_,qQ (qQ t7 ⋯) ⋯,bC (bC (z1 _ _ fj) ⋯) ⋯,p7 _ (bC (bC ho ⋯) ⋯),bC (cG mz) ⋯,b7,⋯,mn,jj,_,_,_,_,_,rfl⟩
    ·let jo:d.kd=.other:=by
      cases z:d.kd with
      |settle=>exact(ek z).elim
      |back f l=>exact(c2 (eb.mpr ⟨f,l,z⟩)).elim
      |other=>rfl
     simp[c2];refine⟨T,R,Bd,o6,fj,m6,og,b1.up,⋯,mn,?_,_,_,_,_,_,rfl⟩;rw[hr];congr 1
     change(match d.kd,hit d.nm.2 ((Bd d.nm.1).map hdD) with|.settle,_=>_|_,a_ b=>_|.back _ _,b_=>_|.other,b_=>_)=_
     rw[hh,jo];rfl
 ·rintro δ h' ⟨T,R,Bd,x,g1,g2,g3,b,lT,nT,hr,x3,x4,x5,x6,x7,rfl⟩;rfl';simp;let q0:run (L.map tri) (λ_=>[])=T:=by
   rw[hr,za,List.drop_length]
   change T++[]=T
   rw[Xk]
  show k L h.length h' x hp hf (by rw[q0];show g2)
theorem Pp{p q:Dd}(h:cD (nmL p) (nmL q)=false)(e:p.nm.1=q.nm.1)(n:p.nm≠q.nm):q.nm.2<p.nm.2:=by
 unfold nmL at h;let n2:p.nm.2≠q.nm.2:=λz=>n (Prod.ext e z);let h1:cD [.inr p.nm.1,.inl p.nm.2] [.inr q.nm.1,.inl q.nm.2]=decide (p.nm.2<q.nm.2):=by unfold cD;rw[if_pos (by rw[e])];unfold cD;rw[if_neg (λz=>n2 (Sum.inl.inj z))];rfl
 rw[h1]at h;have:=of_decide_eq_false h;omega
variable{L:x_ Dd}
theorem JG{x:HD}:x∈ofH w (L.map tri) ↔ ∃d∈L,d.nm.1=w/\hdD d=x:=by
 unfold ofH;rw[zm];constructor
 ·rintro⟨y,hy,rfl⟩;let⟨h1,h2⟩:=XT.mp hy;let⟨d,hd,rfl⟩:=zm.mp h1;show⟨d,hd,of_decide_eq_true h2,rfl⟩
 ·rintro⟨d,hd,e,rfl⟩;show⟨tri d,XT.mpr ⟨zm.mpr ⟨d,hd,rfl⟩,decide_eq_true e⟩,rfl⟩
theorem Gm{w:Str}:∀{L:x_ Dd},(L.map (·.nm)).Nodup->Nl L->Uy (ofH w (L.map tri))
 |[],_,_=>.nil
 |d::L,nd,hf=>by
  replace hf:=VY.mp hf
  rw[zg,Xy]at nd;let ih:=Gm (w:=w) nd.2 hf.2;unfold ofH;rw[zg,Yb];split
  ·rename_i z;rw[zg];refine VY.mpr ⟨λx hx=>?_,ih⟩;let⟨e,he,e1,rfl⟩:=JG.mp hx;let e2:d.nm.1=w:=of_decide_eq_true z;show Pp (hf.1 e he) (e2.trans e1.symm) λzz=>nd.1 (zm.mpr ⟨e,he,zz.symm⟩)
  ·show ih
theorem vY{α:Type}(c:α->Bool)(f:α->PV):∀xs:x_ α,xs.filterMap (λx=>if c x=true then a_ (f x) else b_)=(xs.filter c).map f
 |[]=>rfl
 |x::xs=>by rw[X6,Yb];cases e:c x <;> simp[vY c f xs]
structure QM(ds out:x_ Dd)(F:Str->x_ HD):Prop where
 nd:(out.map (·.nm)).Nodup
 fall:∀w,Uy (F w)
 mem:∀w x,x∈F w ↔ ∃d∈ds,d.nm.1=w/\hdD d=x
 out:∀d,d∈out↔d∈ds/\¬ tkH (F d.nm.1) [] d.nm.2
theorem Ew(ds:x_ Dd)(hw:∀d∈ds,Wf d)(hl:ds.length<=63)(hu:∀d∈ds,∀e∈ds,d.nm=e.nm->d=e)(n:Nat)(h:PH)(g:h[n]?=a_ (.lst (ds.map dP)))(Q:PV->PH->Prop)
  (k:∀out F l h',P2 h'->h.length<=l->h'[l]?=a_ (.lst (out.map dP))->QM ds out F->Es out->Q (.ref l) h'):(lC [.ref n] h).W Q:=by
 refine dY ?_;unfold tZ;rw[aO];simp;refine zX ds hw hl hu n h g _ λos l h1 x1 g1 nd mem rk=>?_
 try simp
 rfl';rw[aO];simp;let xk:os.length<=ds.length:=by
  let h1:(os.map (·.nm)).length<=(ds.map (·.nm)).length:=X5 nd λp hp=>by let⟨d,hd,rfl⟩:=zm.mp hp;show zm.mpr ⟨d,(mem d).mp hd,rfl⟩
  simpa using h1
 refine KY os (λd hd=>hw d ((mem d).mp hd)) ⋯ nd l h1 g1 _ λL t h2 x2 hp hf ht=>?_
 try simp
 rfl';let g2:=x2 _ _ g1;let hc:=kT (js:=[b_,a_ 2]) (tg:=gN 0) (tst:=bW (aG jB (F_ (mV 0) (o_ 0)) (mV 1))) (elt:=mV 0) (m:=mV 1) (δ:=[c_ n,c_ l,c_ t]) (h:=h2) (h1:=h2) (n:=l) (ys:=os) (emb:=dP)
  (λd=>if(!(aP ((run (L.map tri) λ_=>[]).map tk) (pv d.nm)).isSome)=true then a_ (dP d) else b_) (by simp) g2 ⋯ (λd hd=>⟨_,rfl,λh3 hx=>by
   let hn:jB (pv d.nm) (.ref t) h3=.ok (.bl (!(aP ((run (L.map tri) λ_=>[]).map tk) (pv d.nm)).isSome)) h3:=KG (dZ hx ht) rfl;cases e:(aP ((run (L.map tri) λ_=>[]).map tk) (pv d.nm)).isSome with
   |true=>rw[e]at hn;simp[gZ,dP0,hn]
   |false=>rw[e]at hn;simp[gZ,dP0,hn]⟩)
 rw[vY (λd=>!(aP ((run (L.map tri) λ_=>[]).map tk) (pv d.nm)).isSome) dP]at hc;simp[hc];let nh:(L.map (·.nm)).Nodup:=(hp.map _).nodup_iff.mpr nd;refine k _ (λw=>ofH w (L.map tri)) _ _ ((Z7 0).trans (z_ _)) (Wu x1.len x2.len) aN ⟨?_,λw=>Gm nh hf,λw x=>?_,λd=>?_⟩ ?_
 ·show(List.filter_sublist.map _).nodup nd
 ·rw[JG];constructor
  ·rintro⟨d,hd,q⟩;show⟨d,(mem d).mp (hp.mem_iff.mp hd),q⟩
  ·rintro⟨d,hd,q⟩;show⟨d,hp.mem_iff.mpr ((mem d).mpr hd),q⟩
 ·rw[XT,mem d,<-Sw];have:=Eu d.nm (run (L.map tri) λ_=>[]);cases e:aP ((run (L.map tri) λ_=>[]).map tk) (pv d.nm) with
  |none=>rw[e]at this;show and_congr Iff.rfl ⟨λ_ z=>(by let q:=this.mpr z;cases q),λ_=>rfl⟩
  |some p=>rw[e]at this;show and_congr Iff.rfl ⟨λz=>(by cases z),λz=>(z (this.mp rfl)).elim⟩
 ·show rk.sublist List.filter_sublist
theorem Gn(ds:x_ Dd)(hw:∀d∈ds,Wf d)(hl:ds.length<=63)(hu:∀d∈ds,∀e∈ds,d.nm=e.nm->d=e)(n:Nat)(h:PH)(g:h[n]?=a_ (.lst (ds.map dP)))(Q:PV->PH->Prop)
  (k:∀out F l h',P2 h'->h'[l]?=a_ (.lst (out.map dP))->QM ds out F->Es out->Q (.ref l) h'):(lC [.ref n] h).W Q:=by
 show Ew ds hw hl hu n h g Q λout F l h' a _ b c d=>k out F l h' a b c d
theorem Sz{α:Type}{xs:x_ α}:jN xs (a_ 1) b_=xs.tail:=by
 unfold jN HT.sIx;cases xs with
 |nil=>rfl
 |cons a r=>simp
def XI(c many:Int)(h:PH)(q:Nat)(δ:Ev)(h':PH):Prop:=∃(xs:x_ Int)(n:Int),P2 h'/\h'[h.length]?=a_ (.lst (xs.map PV.int))/\xs.length=q/\(∀x∈xs,0<=x/\x<2147483647)/\0<=n/\n<2147531918/\∃x4,δ=[d_ c,d_ many,Z8 0,d_ n,x4]
theorem KZ(c:Int)(many:Nat)(hm:many<=100)(h:PH)(Q:PV->PH->Prop)(k:∀(xs:x_ Int) l h',P2 h'->h'[l]?=a_ (.lst (xs.map PV.int))->xs.length=many->(∀x∈xs,0<=x/\x<2147483647)->Q (.ref l) h'):(vS [.int c,.int many] h).W Q:=by
 refine dY ?_;unfold BO;rw[aO];simp;let x0:P2 (h++[MO.lst []]):=z_ _;let g0:(h++[MO.lst []])[h.length]?=a_ (.lst (([]:x_ Int).map PV.int)):=aN;generalize h++[MO.lst []]=hA at x0 g0;rfl';rw[aO];simp(disch:=omega);let hn:0<=c%2147483647+48271/\c%2147483647+48271<2147531918:=⋯;generalize c%2147483647+48271=n0 at hn;rfl';rw[aO];refine Mp (j:=(many:Int)+1) (XI c many h) ?_ ⋯ ⟨[],n0,x0,g0,rfl,(λx hx=>by cases hx),hn.1,hn.2,_,rfl⟩ ?_ ?_
 ·simp
 ·rintro i δ h' hi ⟨xs,n,x,g,lx,bx,n1,n2,x4,rfl⟩;unfold BN;rw[aO];simp(disch:=omega);let hb:0<=(n*n+48271*n+(i:Int))%2147483647/\(n*n+48271*n+(i:Int))%2147483647<2147483647:=⟨Int.emod_nonneg _ ⋯,Int.emod_lt_of_pos _ ⋯⟩;generalize (n*n+48271*n+(i:Int))%2147483647=n' at hb;rfl';let ap:=dM (p:=.int n') g (by rw[za];omega);rw[show xs.map PV.int++[.int n']=(xs++[n']).map PV.int by simp]at ap;simp[fB g];rw[ap,CA];refine⟨xs++[n'],n',Ep x,cG g,by simp[lx],λz hz=>?_,hb.1,⋯,_,rfl⟩;rcases Wc.mp hz with hz|hz
  ·show bx z hz
  ·rw[z7.mp hz];show hb
 ·rintro δ h' ⟨xs,n,x,g,lx,bx,n1,n2,x4,rfl⟩;rfl';simp only[Ml,S9,U8,Kn,Km,Rs.bind_ok,Uc,QE,OR,HX,E6 g,Sz,CA];rw[<-List.map_tail];show k xs.tail _ _ (x.trans (z_ _)) aN (by rw[List.length_tail,lx];omega) λz hz=>bx z (List.mem_of_mem_tail hz)
theorem Np(zs:Zw 0):(YX "" zs).length=(zs.map Yc).sum:=by
 let e0:(WM "").cps=#[]:=rfl;let key:∀(zs:Zw 0)(acc:Zl 0),((zs.foldl (λacc p=>acc++(WM "").cps++p.cps) acc).size)=acc.size+(zs.map Yc).sum:=by
  intro zs
  induction zs with
  |nil=>intro acc;simp
  |cons z zs ih=>intro acc;rw[List.foldl_cons,ih,zg,List.sum_cons,e0];simp[Yc];omega
 unfold YX
 change((zs.drop 1).foldl (λacc p=>acc++(WM "").cps++p.cps) (zs.headD Str.empty).cps).size=_
 rw[key];cases zs with
 |nil=>rfl
 |cons z zs=>simp[Yc]
theorem Nq(zs:Zw 0):P' "" zs=(zs.map Yc).sum:=by
 unfold P';let key:∀(zs:Zw 0)(n:Nat),zs.foldl (λa p=>a+p.length+("" : Str).length) n=n+(zs.map Yc).sum:=by
  intro zs
  induction zs with
  |nil=>intro n;simp
  |cons z zs ih=>intro n;rw[List.foldl_cons,ih,zg,List.sum_cons];have:("" : Str).length=0:=rfl;omega
 rw[List.foldl_toArray];rw[key];omega
theorem JH:∀zs:Zw 0,BI (zs.map PV.str)=a_ zs
 |[]=>rfl
 |z::zs=>by rw[zg];unfold BI;rw[JH zs];rfl
variable{zs:Zw 0}
theorem Pq(g:h[n]?=a_ (.lst (zs.map PV.str)))(h1:∀z∈zs,z.length=1)(h2:2<=zs.length)(h3:zs.length<=1000):∃w:Str,Ds (.str "") [.ref n] h=.ok (.str w) h/\w.length=zs.length:=by
 let hs:(zs.map Yc).sum=zs.length:=by
  clear g h2 h3
  induction zs with
  |nil=>rfl
  |cons z zs ih=>rw[zg,List.sum_cons,h1 z y8,ih λy hy=>h1 y (y9 _ hy),Wi];omega
 let ej:jnd "" zs=YX "" zs:=by
  match zs,h2 with
  |_::_::_,_=>rfl
 let hw:(jnd "" zs).length=zs.length:=by rw[ej,Np,hs]
 refine⟨jnd "" zs,?_,hw⟩;let el:dA h n=a_ (zs.map PV.str):=by simp[dA,g]
 let hz:(zs.length<=zf):=by rw[kH];omega
 unfold Ds;simp only[el,JH];rw[if_pos ⟨by rw[Nq,hs];show hz,by rw[hw];show hz⟩]
theorem VJ{α:Type}{xs:x_ α}:jN xs b_ (a_ 8)=xs.take 8:=by
 unfold jN HT.sIx;simp
 try omega
theorem Dx(h0:0<=j)(h1:j<=z.length):(W2 z b_ (a_ j)).length=j.toNat:=by rw[<-len_list,Ng h0 h1,Xb,len_list];show Nat.min_eq_left (Int.toNat_le.mpr h1)
variable{i:Nat}
theorem Nr{xs:x_ Int}(h:i<xs.length):atI (xs.map PV.int) (i:Int)=a_ (.int xs[i]):=wY (by simp[h])
theorem Nt(c:Int)(m:Nat)(h3:m<=6)(h:PH)(Q:PV->PH->Prop)(k:∀(hs:Zw 0)(l:Nat)(h':PH),h'[l]?=a_ (.lst (hs.map PV.str))->hs.length=m->Q (.ref l) h'):(AB [.int c,.int m] h).W Q:=by
 refine dY ?_;unfold Ei;rw[aO];simp;rfl';rw[aO];simp;refine KZ c 10 ⋯ h _ λxs lx hA xA gA len bx=>?_
 try simp
 rfl';rw[aO]
 -- the stem
 let ju:=E6 (lo:=b_) (hi:=a_ 8) gA;rw[VJ,<-List.map_take]at ju;let gB:(hA++[MO.lst ((xs.take 8).map PV.int)])[hA.length]?=a_ (.lst ((xs.take 8).map PV.int)):=aN;let xB:Ext hA (hA++[MO.lst ((xs.take 8).map PV.int)]):=z_ _;generalize hA.length=lb at ju gB;generalize hA++[MO.lst ((xs.take 8).map PV.int)]=hB at ju gB xB;let hc:=kT (js:=[b_,a_ 2]) (tg:=gN 0) (tst:=kQ) (elt:=F_ (mV 1) (aG jM (mV 0) (o_ 26))) (m:=mSl (mV 3) qA (mP (o_ 8))) (δ:=[d_ c,d_ m,a_ (.str Gi),c_ lx,b_,b_]) (h:=hA) (h1:=hB) (n:=lb) (ys:=xs.take 8) (emb:=PV.int)
  (λx=>a_ (.str ⟨#[97+(x%26).toNat]⟩)) (by simp[ju]) gB (by rw[Xb];omega) (λx hx=>⟨_,rfl,λh3 _=>⟨rfl,by
   let hl:=JE (i:=x%26) ⋯ ⋯;let hv:vIx (.str Gi) (.int (x%26)) h3=.ok (.str ⟨#[97+(x%26).toNat]⟩) h3:=by rw[Jn (by rw[Dw];omega),hl];rfl
   simp(disch:=omega) [gZ,hv]⟩⟩)
 let e1:(xs.take 8).filterMap (λx=>a_ (PV.str ⟨#[97+(x%26).toNat]⟩))=((xs.take 8).map λx=>(⟨#[97+(x%26).toNat]⟩:Str)).map PV.str:=by rw[filterMap_some,Wp];rfl
 rw[e1]at hc;let uk:∀z∈(xs.take 8).map (λx=>(⟨#[97+(x%26).toNat]⟩:Str)),z.length=1:=λz hz=>by let⟨x,_,rfl⟩:=zm.mp hz;rfl
 let vh:((xs.take 8).map λx=>(⟨#[97+(x%26).toNat]⟩:Str)).length=8:=by rw[za,Xb];omega
 generalize (xs.take 8).map (λx=>(⟨#[97+(x%26).toNat]⟩:Str))=zs at hc uk vh;let gC:(hB++[MO.lst (zs.map PV.str)])[hB.length]?=a_ (.lst (zs.map PV.str)):=aN;let xC:Ext hB (hB++[MO.lst (zs.map PV.str)]):=z_ _;generalize hB.length=lc at hc gC;generalize hB++[MO.lst (zs.map PV.str)]=hC at hc gC xC;let⟨w,ew,lw⟩:=Pq gC uk ⋯ ⋯;let yi:Sn (.str ("" : Str)) hA=true:=rfl;simp[yi,hc,ew];let gX:hC[lx]?=a_ (.lst (xs.map PV.int)):=xC _ _ (xB _ _ gA);let a8:atI (xs.map PV.int) 8=a_ (.int xs[8]):=Nr (i:=8) ⋯;let a9:atI (xs.map PV.int) 9=a_ (.int xs[9]):=Nr (i:=9) ⋯;let b8:=bx xs[8] (Xd _);let b9:=bx xs[9] (Xd _);generalize xs[8]=x8 at a8 b8;generalize xs[9]=x9 at a9 b9;rfl';rw[aO];simp(disch:=omega);split
 ·let ik:=Br (js:=[b_,a_ 4,a_ 3]) (tg:=gN 0) (tst:=kQ) (elt:=mSl (mV 1) qA (mP (ZX (o_ 1) (aG jM (ZX (mV 0) (F_ (mV 2) (o_ 8))) (o_ 8))))) (ms:=aB (mV 1) aE)
   (δ:=[d_ c,d_ m,a_ (.str Gi),c_ lx,a_ (.str w),b_]) (h:=hC) (h1:=hC) (j:=m) (λi=>a_ (.str (W2 w b_ (a_ (1+((i:Int)+x8)%8))))) (by simp) ⋯
   (λi hi=>⟨_,rfl,λh3 hx=>⟨rfl,by simp(disch:=omega) [gZ,mD (hx _ _ gX),a8]⟩⟩)
  simp[ik];have:=k ((z0 m).map λ(i:Nat)=>W2 w b_ (a_ (1+((i:Int)+x8)%8))) hC.length (hC++[.lst (((z0 m).map λ(i:Nat)=>W2 w b_ (a_ (1+((i:Int)+x8)%8))).map PV.str)]) aN (by simp);rw[Wp]at this;show this
 ·rfl';rw[aO];simp(disch:=omega) [mD gX,a8];let l1:=Dx (z:=w) (j:=1+x8%8) ⋯ ⋯;generalize W2 w b_ (a_ (1+x8%8))=z at l1;rfl';rw[aO];simp(disch:=omega) [mD gX,a9];let fu:0<=x9%(z.length:Int)/\x9%(z.length:Int)<z.length:=⟨Int.emod_nonneg _ ⋯,Int.emod_lt_of_pos _ ⋯⟩;generalize x9%(z.length:Int)=at' at fu;let q1:=Dx (z:=z) fu.1 ⋯;let s2:=Iu (z:=z) (j:=at'+1) ⋯ ⋯;let q2:(W2 z (a_ (at'+1)) b_).length=z.length-(at'+1).toNat:=by rw[<-len_list,s2,List.length_drop,len_list]
  let pf:=Dw;let ik:=Br (js:=[b_,a_ 4,a_ 2,a_ 5,a_ 3]) (tg:=gN 0) (tst:=kQ) (elt:=ZX (ZX (mSl (mV 1) qA (mP (mV 3))) (F_ (mV 2) (aG jM (ZX (aG xU (F_ (mV 4) (mC (PV.int 9))) (mC (PV.int 8))) (aG HL (mC (PV.int 5)) (mV 0))) (mC (PV.int 26))))) (mSl (mV 1) (mP (ZX (mV 3) (mC (PV.int 1)))) qA)) (ms:=aB (mV 1) aE)
   (δ:=[d_ c,d_ m,a_ (.str Gi),c_ lx,a_ (.str z),d_ at']) (h:=hC) (h1:=hC) (j:=m) (λi=>a_ (.str (W2 z b_ (a_ at')++(⟨#[97+((x9/8+5*(i:Int))%26).toNat]⟩:Str)++W2 z (a_ (at'+1)) b_))) (by simp) ⋯
   (λi hi=>⟨_,rfl,λh3 hx=>⟨rfl,by
    let ik:=JE (i:=(x9/8+5*(i:Int))%26) ⋯ ⋯;let q3:(⟨#[97+((x9/8+5*(i:Int))%26).toNat]⟩:Str).length=1:=rfl;let q4:(W2 z b_ (a_ at')++(⟨#[97+((x9/8+5*(i:Int))%26).toNat]⟩:Str)).length=at'.toNat+1:=by rw[Nf,q1]
    simp(disch:=omega) [gZ,ik,mD (hx _ _ gX),a9]⟩⟩)
  rfl';simp[ik];have:=k ((z0 m).map λ(i:Nat)=>W2 z b_ (a_ at')++(⟨#[97+((x9/8+5*(i:Int))%26).toNat]⟩:Str)++W2 z (a_ (at'+1)) b_) hC.length (hC++[.lst (((z0 m).map λ(i:Nat)=>W2 z b_ (a_ at')++(⟨#[97+((x9/8+5*(i:Int))%26).toNat]⟩:Str)++W2 z (a_ (at'+1)) b_).map PV.str)]) aN (by simp);rw[Wp]at this;show this
theorem Gp(S:Seen)(h h':Str)(n:Int):look (dput S h n) h'=if h'=h then a_ n else look S h':=by
 unfold dput;let m:∀S:Seen,look (S.map λp=>if p.1=h then(p.1,n) else p) h'=if h'=h then(look S h').map (λ_=>n) else look S h':=λS=>by
  induction S with
  |nil=>simp[look]
  |cons p r ih=>
   rw[zg,nK,nK,ih];by_cases e:p.1=h
   ·by_cases q:h'=h
    ·simp[e,q]
    ·have:¬ h=h':=λz=>q z.symm;simp[e,q,this]
   ·by_cases q:h'=h
    ·simp[e,q]
    ·simp[e,q]
 let a:∀S:Seen,look S h=b_->look (S++[(h,n)]) h'=if h'=h then a_ n else look S h':=λS=>by
  induction S with
  |nil=>
   intro _;by_cases q:h'=h
   ·simp[look,q]
   ·have:¬ h=h':=λz=>q z.symm;simp[look,q,this]
  |cons p r ih=>
   intro e;rw[nK]at e;split at e
   ·cases e
   ·rename_i c;rw[YE,nK,nK,ih e];by_cases q:h'=h
    ·subst q;simp[c]
    ·simp[q]
 split
 ·rename_i c;rw[m];by_cases q:h'=h
  ·subst q;let⟨v,e⟩:=W0.mp c;simp[e]
  ·simp[q]
 ·rename_i c;show a S (ke c)
structure RI(rows:x_ Dd)(D:Seen):Prop where
 wf:∀d∈rows,Wf d/\d.kd≠.other
 nd:(rows.map (·.nm)).Nodup
 cnt:∀e∈rows,e.nm.2<=(look D e.nm.1).getD 0
variable{rows:x_ Dd}
theorem RI.snoc{D:Seen}(r:RI rows D){d:Dd}(w:Wf d/\d.kd≠.other)(e:d.nm.2=(look D d.nm.1).getD 0+1):RI (rows++[d]) (dput D d.nm.1 d.nm.2):=by
 refine⟨λx hx=>?_,?_,λx hx=>?_⟩
 ·rcases Wc.mp hx with z|z
  ·show r.wf x z
  ·rw[z7.mp z];show w
 ·rw[WB,X0];refine⟨r.nd,by simp,λa ha b hb z=>?_⟩;let⟨x,hx,rfl⟩:=zm.mp ha;let hb:=z7.mp hb;have:=r.cnt x hx;let e1:x.nm=d.nm:=z.trans hb;rw[e1]at this;omega
 ·rw[Gp];rcases Wc.mp hx with z|z
  ·have:=r.cnt x z;split
   ·rename_i c;rw[c]at this
    change _<=d.nm.2
    omega
   ·show this
  ·rw[z7.mp z,Zc 0];show Int.le_refl _
noncomputable def dT:Ms:=aU (bZ 9 (bL (aB (mC (.str "settle")) aE)))
  (aU (gY (bW (aG vEq (aG jM (aG xU (mV 5) (o_ 3)) (o_ 2)) (o_ 0)))
   (bZ 9 (bL (aB (mC (.str "back")) (aB (ZX (o_ 1) (aG jM (aG xU (mV 5) (o_ 6)) (mV 7))) (aB (ZX (ZX (o_ 1) (aG jM (aG xU (mV 5) (o_ 6)) (mV 7))) (aG jM (aG xU (mV 5) (o_ 31)) (o_ 4))) aE)))))
   iL)
  (lQ (mMt isL (onL cL) (mV 3) (aB (bL (aB (bL (aB (mV 6) (aB (mV 7) aE))) (aB (mCB tH (aB (mCB oB (aB (mV 8) aE)) aE)) (aB (mV 9) aE)))) aE))))
variable{E:FE}{x0 x1 x4 x9:y_ PV}
theorem Uz{l3 ls:Nat}{x2:y_ PV}{c N:Int}(N1:1<=N)(gS:h[ls]?=a_ (.lst ((S.map row).map tP)))(lS:S.length<=2)(g3:h[l3]?=a_ (.lst (rows.map dP)))(lr:rows.length<=100)(k:∀(d:Dd) x9 h',Wf d/\d.kd≠.other->d.nm=(w,N)->(∀i o,i≠l3->h[i]?=a_ o->h'[i]?=a_ o)->h'[l3]?=a_ (.lst ((rows++[d]).map dP))->E.nx [x0,x1,x2,c_ l3,x4,d_ c,a_ (.str w),d_ N,c_ ls,x9] h'):
  (dT [x0,x1,x2,c_ l3,x4,d_ c,a_ (.str w),d_ N,c_ ls,x9] h).W E:=by
 let fin:∀kd a,kd≠.other->WfA kd a->a.all (PV.pl 37)=true->Lt (lQ (mMt isL (onL cL) (mV 3) (aB (bL (aB (bL (aB (mV 6) (aB (mV 7) aE))) (aB (mCB tH (aB (mCB oB (aB (mV 8) aE)) aE)) (aB (mV 9) aE)))) aE))) E [x0,x1,x2,c_ l3,x4,d_ c,a_ (.str w),d_ N,c_ ls,a_ (.tup a)] h:=λkd a ne wa pl=>by
  let⟨S2,e2⟩:=KU S;let so:=Ea gS (by rw[za];omega) (KR S);rw[e2]at so;let lS2:S2.length=S.length:=by have:=congrArg YH e2;rw[(gI _).length_eq,za,za]at this;show this.symm
  let ot:=Ext.app h [MO.lst ((S2.map row).map tP)];let gT:(h++[MO.lst ((S2.map row).map tP)])[h.length]?=a_ (.lst ((S2.map row).map tP)):=aN;generalize h++[MO.lst ((S2.map row).map tP)]=hA at so ot gT;let vt:=KS gT;let jr:=ot _ _ g3;let ap:=dM (p:=dP ⟨(w,N),S2,kd,a⟩) jr (by rw[za];omega);let ap:onL cL (.ref l3) [.tup [.tup [.str w,.int N],sv S2,.tup a]] hA=.ok .non _:=ap;rfl';simp[fB g3,so,vt,ap];refine k ⟨(w,N),S2,kd,a⟩ _ _ ⟨⟨by change S2.length<=100;omega,wa,pl⟩,ne⟩ rfl (λi o hi ho=>bC (ot _ _ ho) (Yw hi)) ?_;rw[WB];show cG jr
 unfold dT;rw[aO];simp;rfl';rw[aO,iM];by_cases z:c/3%2=0
 ·simp(disch:=omega) [z];show fin (.back _ _) _ (by simp) rfl rfl
 ·simp(disch:=omega) [z];show fin .settle _ (by simp) rfl rfl
def DI(cs:x_ Int)(fst:Str)(lc lh:Nat)(h:PH)(q:Nat)(δ:Ev)(h':PH):Prop:=∃rows D,P2 h'/\h'[h.length]?=a_ (.lst (rows.map dP))/\h'[h.length+1]?=a_ (.dK (emb D))/\RI rows D/\rows.length=q/\D.length<=q/\(∀w,0<=(look D w).getD 0)/\
   ∃x5 x6 x7 x8 x9,δ=[c_ lc,a_ (.str fst),c_ lh,Z8 0,c_ (h.length+1),x5,x6,x7,x8,x9]
theorem Nu(cs:x_ Int)(l9:cs.length<=30)(fst:Str)(hs:Zw 0)(h1:1<=hs.length)(h6:hs.length<=6)(lc lh:Nat)(h:PH)(gc:h[lc]?=a_ (.lst (cs.map PV.int)))(gh:h[lh]?=a_ (.lst (hs.map PV.str)))(Q:PV->PH->Prop)
  (k:∀rows D l h',P2 h'->h'[l]?=a_ (.lst (rows.map dP))->RI rows D->rows.length=cs.length->Q (.ref l) h'):(AC [.ref lc,.str fst,.ref lh] h).W Q:=by
 refine dY ?_;let kz:hs.map PV.str≠[]:=by intro z;have:=congrArg YH z;simp at this;rw[this]at h1;simp at h1
 let ha:∀i:Int,∃w,atI (hs.map PV.str) (i%(hs.length:Int))=a_ (.str w)/\w∈hs:=λi=>by let⟨p,e,m⟩:=OW (xs:=hs.map PV.str) (i:=i) kz;let⟨w,hw,rfl⟩:=zm.mp m;rw[za]at e;show⟨w,e,hw⟩
 let xf:(0:Int)<hs.length:=⋯;unfold Ek;rw[aO];simp;rfl';rw[aO];simp;let x0:P2 (h++[MO.lst [],MO.dK []]):=z_ _;let g0:(h++[MO.lst [],MO.dK []])[h.length]?=a_ (.lst (([]:x_ Dd).map dP)):=by simp
 let g1:(h++[MO.lst [],MO.dK []])[h.length+1]?=a_ (.dK (emb [])):=by simp[emb]
 generalize h++[MO.lst [],MO.dK []]=hA at x0 g0 g1;rfl';rw[aO];refine qF (n:=lc) (xs:=cs.map PV.int) (h1:=hA) (DI cs fst lc lh h) (by simp) (x0 _ _ gc) ⟨[],[],x0,g0,g1,⟨λd hd=>(by cases hd),by simp,λe he=>(by cases he)⟩,rfl,by simp,λw=>Int.le_refl _,_,_,_,_,_,rfl⟩ ?_ ?_ ?_
 ·rintro q δ h' hq ⟨rows,D,x,_⟩;show x _ _ gc
 ·rintro q y δ h' hy ⟨rows,D,x,g2,g3,ri,lr,lD,cnt0,x5,x6,x7,x8,x9,rfl⟩;let hq:q<cs.length:=by have:=(yy.mp hy).1;simpa using this
  rw[zt]at hy;let⟨c,hc,rfl⟩:=Wb.mp hy;refine⟨_,rfl,?_⟩;let sg:=x _ _ gh;let⟨w,ew,hwm⟩:=ha c;rw[show Dv=aU (bZ 6 (F_ (mV 2) (aG jM (mV 5) (mCB qB (aB (mV 2) aE))))) (aU (bZ 7 (ZX (mMt dR FV (mV 4) (aB (mV 6) (aB (o_ 0) aE))) (o_ 1))) (aU (qJ (mV 7) (mV 4) (mV 6)) (aU (bZ 8 (dW (aB (bL (aB (mV 1) (aB (o_ 10) aE))) aE))) (aU (gY (bW (aG vGt (mV 7) (o_ 1))) (lQ (mMt isL (onL cL) (mV 8) (aB (bL (aB (mV 6) (aB (aG HK (mV 7) (o_ 1)) aE))) aE))) iL) dT)))) from rfl]
  rw[aO];simp(disch:=omega) [FN sg,mD sg,ew];rfl';let o4:=Ju (x:=w) (z:=.int 0) g3;rw[BR]at o4;let ev:((look D w).map PV.int).getD (.int 0)=.int ((look D w).getD 0):=by cases look D w <;> rfl
  rw[ev]at o4;let cw0:=cnt0 w;rw[aO];simp[Bv g3,o4];rfl';obtain⟨N,hN⟩:∃N,(look D w).getD 0+1=N:=⟨_,rfl⟩;rw[hN];let qi:nG (.ref (h.length+1)) (.str w) (.int N) h'=a_ (h'.set (h.length+1) (.dK (emb (dput D w N)))):=by rw[Pc g3 (by unfold emb;rw[za];omega),Pf]
  rw[aO];simp;refine⟨_,qi,?_⟩;let x1:P2 (h'.set (h.length+1) (.dK (emb (dput D w N)))):=x.setN ⋯;let sx:(h'.set (h.length+1) (.dK (emb (dput D w N))))[h.length]?=a_ (.lst (rows.map dP)):=bC g2 ⋯;let pd:=cG (o':=.dK (emb (dput D w N))) g3;generalize h'.set (h.length+1) (.dK (emb (dput D w N)))=h2 at x1 sx pd;rfl'
  -- what it had seen
  rw[aO];simp;let x2:Ext h2 (h2++[MO.lst [.tup [.str fst,.int 10]]]):=z_ _;let jz:(h2++[MO.lst [.tup [.str fst,.int 10]]])[h2.length]?=a_ (.lst (([(fst,(10:Int))].map row).map tP)):=aN;let cy:h.length+1<h2.length:=(yy.mp pd).1;let pj:=x2 _ _ sx;let jr:=x2 _ _ pd;let xA:=Z7 0;generalize h2.length=ls at jz cy;generalize h2++[MO.lst [.tup [.str fst,.int 10]]]=h3 at jz pj jr xA;clear x2;rfl';let rest:∀(S:Seen)(h4:PH),S.length<=2->P2 h4->h4[h.length]?=a_ (.lst (rows.map dP))->h4[h.length+1]?=a_ (.dK (emb (dput D w N)))->h4[ls]?=a_ (.lst ((S.map row).map tP))->∀E:FE,(∀δ h',DI cs fst lc lh h (q+1) δ h'->E.nx δ h')->(dT [c_ lc,a_ (.str fst),c_ lh,Z8 0,c_ (h.length+1),d_ c,a_ (.str w),d_ N,c_ ls,x9] h4).W E:=λS h4 lS x4 xo mz gS E kE=>by
   refine Uz ⋯ gS lS xo ⋯ λd x9 h5 wd en fr g5=>?_;let uv:=ri.snoc (d:=d) wd (by rw[en];show hN.symm);rw[en]at uv;refine kE _ _ ⟨rows++[d],dput D w N,λi o e=>fr i o (λz=>?_) (x4 _ _ e),g5,fr _ _ ⋯ mz,uv,by simp[lr],by have:=Pg (S:=D) (h:=w) (n:=N);omega,λv=>?_,_,_,_,_,_,rfl⟩
   ·have:=(yy.mp e).1;omega
   ·rw[Gp];split
    ·change 0<=N
     omega
    ·show cnt0 v
  rw[aO,iM];by_cases c1:1<N
  ·let ap:=dM (p:=tP (row (w,N-1))) jz (by simp);let ap:onL cL (.ref ls) [.tup [.str w,.int (N-1)]] h3=.ok .non _:=ap;simp[c1,fB jz,ap];show now (rest [(fst,10),(w,N-1)] _ (by simp) (xA.setN ⋯) (bC pj ⋯) (bC jr ⋯) (cG jz) _ λ_ _ z=>z)
  ·simp[c1];show now (rest [(fst,10)] _ (by simp) xA pj jr jz _ λ_ _ z=>z)
 ·rintro δ h' ⟨rows,D,x,g2,g3,ri,lr,lD,cnt0,x5,x6,x7,x8,x9,rfl⟩;rw[za]at lr;rfl';simp;show k rows D _ h' x g2 ri lr
abbrev Nm:=Str×Int
structure Tg where
 nm:Nm
 sp:Str
 v:Int
abbrev root:Nm:=("",0)
def dS(t:Tg):PV:=.tup [Za 0,.str "count",ZV 0,.str t.sp,.int t.v]
def AtT(hd:Str)(ts:x_ Tg):Prop:=∀(i:Nat)(t:Tg),ts[i]?=a_ t->t.nm=(hd,(i:Int)+1)/\t.sp=⟨#[97+i]⟩
theorem Pr:∀i:Fin 5,("abcde" : Str).cps.toList[i.val]?=a_ (97+i.val):=by decide +kernel
theorem Pt:("abcde" : Str).length<=16777216:=by decide +kernel
theorem Nv(h:i<5)(hp:PH):vIx (.str "abcde") (.int (i:Int)) hp=.ok (.str ⟨#[97+i]⟩) hp:=by
 rw[Jn Pt,show atI ("abcde" : Str).cps.toList (i:Int)=a_ (97+i) from wY (Pr ⟨i,h⟩)]
 rfl
variable{hd:Str}{ts:x_ Tg}
theorem AtT.snoc(a:Zf 0)(v:Int):AtT hd (ts++[⟨(hd,(ts.length:Int)+1),⟨#[97+ts.length]⟩,v⟩]):=λi t e=>by
 by_cases c:i<ts.length
 ·rw[Wj c]at e;show a i t e
 ·rw[Xe ⋯]at e;let hi:i-ts.length=0:=by have:=(yy.mp e).1;simp at this;omega
  rw[hi]at e;let n4:i=ts.length:=⋯;subst n4;cases e
  show⟨rfl,rfl⟩
theorem Pu(ns:x_ Int)(hd:Str)(h:PH)(Q:PV->PH->Prop)(k:∀ts l l2 h',ts.length<=5->Zf 0->P2 h'->h'[l]?=a_ (.lst (ZY 0))->h'[l2]?=a_ (.lst [])->l≠l2->Q (.tup [.ref l,.ref l2]) h'):(Ej [.fl (Zb 0),.str hd] h).W Q:=by
 refine dY ?_;unfold Im;rw[aO];simp;let x0:=Ext.app h [MO.lst []];let g0:(h++[MO.lst []])[h.length]?=a_ (.lst (([]:x_ Tg).map dS)):=aN;generalize h++[MO.lst []]=hA at x0 g0;rfl';rw[aO];let c0:=λh=>Er ns 0 h;let m0:=Int.emod_nonneg (cell ns 0/72) (b:=6) ⋯;let m1:=Int.emod_lt_of_pos (cell ns 0/72) (b:=6) ⋯;refine Mp (j:=cell ns 0/72%6) (λq δ h'=>∃ts x3 x4,ts.length=q/\Zf 0/\P2 h'/\h'[h.length]?=a_ (.lst (ZY 0))/\δ=[a_ (.fl (Zb 0)),a_ (.str hd),Z8 0,x3,x4]) ?_ ⋯ ⟨[],_,_,rfl,(λi t e=>nomatch e),x0,g0,rfl⟩ ?_ ?_
 ·have:=c0 hA;simp at this;simp(disch:=omega) [this]
 ·rintro q δ h' hq ⟨ts,x3,x4,rfl,a,x,g,rfl⟩;let cq:gJ [.fl (Zb 0),.int (1+(ts.length:Int))] h'=.ok (.int (cell ns (1+ts.length))) h':=by have:=Er ns (1+ts.length) h';simpa using this
  unfold Gg;rw[aO];simp(disch:=omega) [cq];generalize cell ns (1+ts.length)%19999999999999999999999999999999999999999-10000000000000000000000000000000000000000+1=v;rfl';let hl:ts.length<5:=⋯;let ap:=dM (p:=dS ⟨(hd,(ts.length:Int)+1),⟨#[97+ts.length]⟩,v⟩) g (by rw[za];omega);let ap:onL cL (.ref h.length) [.tup [.tup [.str hd,.int ((ts.length:Int)+1)],.str "count",.tup [.str "",.int 0],.str ⟨#[97+ts.length]⟩,.int v]] h'=.ok .non (h'.set h.length (MO.lst (ZY 0++[dS ⟨(hd,(ts.length:Int)+1),⟨#[97+ts.length]⟩,v⟩]))):=ap;simp[fB g,Nv hl];rw[ap,CA];refine⟨ts++[_],by simp,a.snoc v,Ep x,?_⟩;rw[WB];show cG g
 ·rintro δ h' ⟨ts,x3,x4,lv,a,x,g,rfl⟩;rfl';simp;let hl:=(yy.mp g).1;show k ts _ _ _ ⋯ a (x.trans (z_ _)) (z_ _ _ _ g) aN ⋯
variable{Q:PV->PH->Prop}{cn:Str}{f:Fn}{h1:PH}{ms:Ma}{ps:Y9 0}{δ:Ev}
theorem Ex(e:ms δ h=.ok ps h1)(l:ps.length=n)(w:(f (.ref h1.length::ps) (h1++[.ins cn []])).W λv h2=>v=.non/\Q (.ref h1.length) h2):(vQ cn n f ms δ h).W Q:=by let⟨v,h2,e2,rfl,q⟩:=kG w;rw[BH,e,Rs.bind_ok,if_pos l,e2,Rs.bind_ok];dsimp only;rw[CA];show q
theorem nL{κ:Type}[DecidableEq κ](kvs:x_ (κ×PV))(k:κ)(p:PV)(k':κ):aP (eK kvs k p) k'=if k'=k then a_ p else aP kvs k':=by
 let m:∀kvs:x_ (κ×PV),aP (kvs.map λkv=>if kv.1=k then(kv.1,p) else kv) k'=if k'=k then(Zk k).map (λ_=>p) else Zk k':=λkvs=>by
  induction kvs with
  |nil=>simp[aP]
  |cons x r ih=>
   let⟨a,y⟩:=x;rw[zg];by_cases e:a=k
   ·subst e;simp only[if_pos,aP];rw[ih];by_cases c:k'=a
    ·subst c;simp
    ·let c2:¬ a=k':=λz=>c z.symm;simp[c,c2]
   ·simp only[Zs 0,aP];rw[ih];by_cases c:k'=k
    ·subst c;simp[e]
    ·simp[c]
 let a:∀kvs:x_ (κ×PV),Zk k=b_->aP (kvs++[(k,p)]) k'=if k'=k then a_ p else aP kvs k':=λkvs=>by
  induction kvs with
  |nil=>
   intro _;by_cases c:k'=k
   ·simp[aP,c]
   ·let c2:¬ k=k':=λz=>c z.symm;simp[aP,c,c2]
  |cons x r ih=>
   let⟨a,y⟩:=x;intro e;unfold aP at e;split at e
   ·cases e
   ·rename_i c;rw[YE];unfold aP;rw[ih e];by_cases q:k'=k
    ·subst q;simp[c]
    ·simp[q]
 unfold eK;split
 ·rename_i c;rw[m];let⟨v,e⟩:=W0.mp c;rw[e];rfl
 ·rename_i c;show a kvs (ke c)
theorem Ey{κ:Type}[DecidableEq κ](kvs:x_ (κ×PV))(k:κ)(p:PV):(eK kvs k p).length<=kvs.length+1:=by unfold eK;split <;> simp
variable{xs:Y9 0}
theorem nM(e:h[n]?=a_ (.lst xs)):vF [.ref n] h=.ok (.ref h.length) (h++[.lst xs]):=by
 have:aZ h n=a_ xs:=by simp[aZ,e]
 unfold vF;simp only[this]
variable{kvs:x_ (PV×PV)}
theorem Dy{p:PV}(e:bX h n=a_ kvs)(hk:(PV.tup xs).ky 6=true)(hl:Zk (.tup xs)=a_ p):vAt (.ref n) (.tup xs) h=.ok p h:=by
 let k1:(PV.tup xs).isKt=true:=hk;have:lR (.tup xs) (.ref n) h=a_ (Zk (.tup xs)):=by simp only[lR,k1,if_true,e,YU]
 unfold vAt;rw[this,hl]
theorem Ez(e:h[n]?=a_ (.dK [])):bX h n=a_ []:=by unfold bX;rw[e]
def Kp1(l:Nat)(h h':PH):Prop:=∀(i:Nat) o,i≠l->h[i]?=a_ o->h'[i]?=a_ o
variable{hY:PH}{l:Nat}
theorem Kp1.ext(x:P2 hX)(k:Kp1 l hX hY)(hl:h.length<=l):P2 hY:=λi o e=>k i o (by have:=(yy.mp e).1;omega) (x i o e)
theorem Kp1.set:Kp1 l h (h.set l o):=λi ob hi e=>bC e (Yw hi)
theorem Kp1.tr(x:Kp1 l h hX)(k:Kp1 l hX hY):Kp1 l h hY:=λi o hi e=>k i o hi (x i o hi e)
theorem Kp1.of(x:P2 hX):Kp1 l h hX:=λi o _ e=>x i o e
def iS(t:Tg):PV:=.tup [Za 0,.str "count",ZV 0,.str t.sp]
def lE(t:Tg):PV:=.tup [.str "count",ZV 0,.str t.sp]
def A9(t:Tg):PV×PV:=(Za 0,lE t)
theorem Pv{p:Nm}(hn:∀t∈ts,t.nm≠p):aP (ts.map A9) (pv p)=b_:=by
 induction ts with
 |nil=>rfl
 |cons t ts ih=>rw[zg];unfold aP A9;rw[if_neg (λz=>hn t y8 (oR z))];show ih λt ht=>hn t (y9 _ ht)
theorem Nw{t:Tg}(hn:∀u∈ts,u.nm≠t.nm):eK (ts.map A9) (Za 0) (lE t)=(ts++[t]).map A9:=by unfold eK;rw[Pv hn];simp[A9]
theorem Nx(g:h[l]?=a_ (.ins "Tree" []))(k:∀x y h',Kp1 l h h'->h'[l]?=a_ (.ins "Tree" [("made",x),("failed",y)])->Q .non h'):(eS [.ref l] h).W Q:=by refine dY ?_;unfold jQ;rw[aO];simp;let g1:=Ext.app h [MO.dK []] _ _ g;refine⟨_,jG g1 (by simp),?_⟩;let k1:Kp1 l h ((h++[MO.dK []]).set l (MO.ins "Tree" (lV "made" (.ref h.length) []))):=(Kp1.of (z_ _)).tr Kp1.set;let g2:=cG (o':=MO.ins "Tree" (lV "made" (.ref h.length) [])) g1;generalize (h++[MO.dK []]).set l (MO.ins "Tree" (lV "made" (.ref h.length) []))=hA at k1 g2;rfl';simp;let g3:=Ext.app hA [MO.lst []] _ _ g2;refine⟨_,jG g3 (by simp[lV]),?_⟩;show k _ _ _ (k1.tr ((Kp1.of (z_ _)).tr Kp1.set)) (cG g3)
theorem Ny(a:Zf 0){q:Nat}{t:Tg}(e:ts[q]?=a_ t):∀u∈ts.take q,u.nm≠t.nm:=λu hu z=>by let⟨i,hi,rfl⟩:=List.mem_iff_getElem.mp hu;rw[Xb]at hi;let e1:=(a q t e).1;let e2:=(a i (ts.take q)[i] (by rw[List.getElem_take];show z9 _)).1;rw[e1,e2]at z;have:=(Prod.ext_iff.mp z).2;have:(i:Int)+1=q+1:=this;omega
variable{lr lx:Nat}{x y:PV}
theorem Pw(a:Zf 0)(hl:ts.length<=5)(g:h[l]?=a_ (.ins "Tree" [("made",x),("failed",y)]))(gr:h[lr]?=a_ (.lst (ts.map iS)))(gx:h[lx]?=a_ (.lst []))(k:∀lm lf h',Kp1 l h h'->h'[l]?=a_ (.ins "Tree" [("made",.ref lm),("failed",.ref lf)])->bX h' lm=a_ (ts.map A9)->h'[lf]?=a_ (.lst [])->Q .non h'):(gK [.ref l,.ref lr,.ref lx] h).W Q:=by
 let nr:lr≠l:=λz=>by subst z;rw[g]at gr;cases gr
 let nx:lx≠l:=λz=>by subst z;rw[g]at gx;cases gx
 let pf:=(yy.mp g).1;let kr:=(yy.mp gr).1;let xi:=(yy.mp gx).1;refine dY ?_;unfold qL;rw[aO];simp;let g1:=Ext.app h [MO.dK []] _ _ g;refine⟨_,jG g1 (by simp),?_⟩;let k1:Kp1 l h ((h++[MO.dK []]).set l (MO.ins "Tree" (lV "made" (.ref h.length) [("made",x),("failed",y)]))):=(Kp1.of (z_ _)).tr Kp1.set;let g2:((h++[MO.dK []]).set l (MO.ins "Tree" (lV "made" (.ref h.length) [("made",x),("failed",y)])))[l]?=a_ (.ins "Tree" [("made",.ref h.length),("failed",y)]):=cG g1;let t2:bX ((h++[MO.dK []]).set l (MO.ins "Tree" (lV "made" (.ref h.length) [("made",x),("failed",y)]))) h.length=a_ ((ts.take 0).map A9):=by have:((h++[MO.dK []]).set l (MO.ins "Tree" (lV "made" (.ref h.length) [("made",x),("failed",y)])))[h.length]?=a_ (.dK []):=bC aN ⋯;show Ez this
 generalize (h++[MO.dK []]).set l (MO.ins "Tree" (lV "made" (.ref h.length) [("made",x),("failed",y)]))=hA at k1 g2 t2;rfl';rw[aO];refine qF (n:=lr) (xs:=ts.map iS) (h1:=hA) (λq δ h'=>Kp1 l h h'/\h'[l]?=a_ (.ins "Tree" [("made",.ref h.length),("failed",y)])/\bX h' h.length=a_ ((ts.take q).map A9)/\∃x3 x4 x5 x6,δ=[c_ l,c_ lr,c_ lx,x3,x4,x5,x6]) (by simp) (k1 _ _ nr gr) ⟨k1,g2,t2,_,_,_,_,rfl⟩ ?_ ?_ ?_
 ·rintro q δ h' hq ⟨k2,_⟩;show k2 _ _ nr gr
 ·rintro q y' δ h' hy ⟨k2,g3,t3,x3,x4,x5,x6,rfl⟩;rw[zt]at hy;let⟨t,ht,rfl⟩:=Wb.mp hy;refine⟨[c_ l,c_ lr,c_ lx,a_ (Za 0),a_ (.str "count"),a_ (ZV 0),a_ (.str t.sp)],by simp[iS],?_⟩;let hp:nG (.ref h.length) (Za 0) (lE t) h'=a_ (h'.set h.length (.dD (eK ((ts.take q).map A9) (Za 0) (lE t)))):=AA t3 rfl (by rw[za,Xb];omega);let hq:=(yy.mp ht).1;rw[Nw (Ny a ht),show ts.take q++[t]=ts.take (q+1) by rw[WQ,ht];rfl]at hp;let⟨o,ho,_,_⟩:=cH t3;unfold sR;let fm:bM "made" (.ref l) h'=.ok (.ref h.length) h':=jC g3 rfl;simp[fm];refine⟨_,hp,?_,?_,?_⟩
  ·show λi ob hi e=>bC (k2 i ob hi e) (by have:=(yy.mp e).1;omega)
  ·show bC g3 ⋯
  ·rw[<-List.map_take];show rT (cG ho)
 ·rintro δ h' ⟨k2,g3,t3,x3,x4,x5,x6,rfl⟩;rw[za,Ya]at t3;rfl';let wq:=k2 _ _ nx gx;simp[nM wq];let g4:=Ext.app h' [MO.lst []] _ _ g3;let cy:=(yy.mp g3).1;refine⟨_,jG g4 (by simp),?_⟩;let⟨o,ho,_,hh⟩:=cH t3;show k h.length h'.length _ (k2.tr ((Kp1.of (z_ _)).tr Kp1.set)) (cG g4) (hh _ (bC (z_ _ _ _ ho) ⋯)) (bC aN ⋯)
structure FQ(h:PH)(l lt lm lf ll:Nat)(ts:x_ Tg)(q:Nat):Prop where
 fo:h[l]?=some (.ins "Folding" [("tree",.ref lt),("leaves",.ref ll)])
 tr:h[lt]?=some (.ins "Tree" [("made",.ref lm),("failed",.ref lf)])
 ma:bX h lm=some (ts.map A9)
 fa:h[lf]?=some (.lst [])
 ne:lm≠ll
 le:∃kvs,bX h ll=some kvs/\kvs.length<=q/\(∀t∈ts.take q,∃c:Nat,aP kvs (pv t.nm)=c_ c/\h[c]?=some (.ins "Count" [("total",.int t.v)]))/\∀p:Nm,(∀t∈ts.take q,t.nm≠p)->aP kvs (pv p)=none
variable{lf ll lm:Nat}
theorem FQ.ext{lt:Nat}{q:Nat}(f:K_ q)(x:P2 h'):FQ h' l lt lm lf ll ts q:=by let⟨kvs,t,a,b,c⟩:=f.le;show⟨x _ _ f.fo,x _ _ f.tr,dZ x f.ma,x _ _ f.fa,f.ne,kvs,dZ x t,a,λt ht=>let ⟨c,e,g⟩:=b t ht;⟨c,e,x _ _ g⟩,c⟩
theorem Px(k:∀h',P2 h'->h'[h.length]?=a_ (.ins "Count" [("total",.int 0)])->Q (.ref h.length) h'):(rW [.str "count"] h).W Q:=by refine dY ?_;unfold yI;rw[aO,iM];simp[-BH];refine Ex (ps:=[]) (h1:=h) rfl rfl ?_;refine dY ?_;unfold iQ;let g:(h++[MO.ins "Count" []])[h.length]?=a_ (.ins "Count" []):=aN;simp;refine⟨_,jG g (by simp),?_⟩;show k _ ((z_ _).setN (zd _)) (cG g)
theorem SB{lt:Nat}{p:Nm}(fo:h[l]?=a_ (.ins "Folding" [("tree",.ref lt),("leaves",.ref ll)]))(tl:bX h ll=a_ kvs)(lk:kvs.length<=100)(k:∀h',Kp1 ll h h'->h'[h.length]?=a_ (.ins "Count" [("total",.int 0)])->bX h' ll=a_ (eK kvs (pv p) (.ref h.length))->Q .non h'):(cA [.ref l,pv p,.str "count"] h).W Q:=by refine dY ?_;unfold fV;rw[aO];simp;refine Px λh1 x1 g1=>?_;rfl';let fl:bM "leaves" (.ref l) h1=.ok (.ref ll) h1:=jC (x1 _ _ fo) rfl;let t1:=dZ x1 tl;let hp:nG (.ref ll) (pv p) (.ref h.length) h1=a_ (h1.set ll (.dD (eK kvs (pv p) (.ref h.length)))):=AA t1 rfl ⋯;let⟨o,ho,_,_⟩:=cH tl;let pf:=(yy.mp ho).1;let nn:xZ (.ref h.length) .non h1=.ok (.bl true) h1:=rfl;simp[nn,fl];show⟨_,hp,k _ (λi o hi e=>bC (x1 _ _ e) (Yw hi)) (bC g1 ⋯) (rT (cG (x1 _ _ ho)))⟩
theorem Gq(a:Zf 0)(hl:ts.length<=5)(g:h[l]?=a_ (.ins "Folding" []))(gr:h[lr]?=a_ (.lst (ZY 0)))(gx:h[lx]?=a_ (.lst []))(k:∀lt lm lf ll h',Kp1 l h h'->FQ h' l lt lm lf ll ts ts.length->Q .non h'):(bD [.ref l,.tup [.ref lr,.ref lx]] h).W Q:=by
 let nr:lr≠l:=λz=>by subst z;rw[g]at gr;cases gr
 let nx:lx≠l:=λz=>by subst z;rw[g]at gx;cases gx
 let pf:=(yy.mp g).1;let kr:=(yy.mp gr).1;let xi:=(yy.mp gx).1;refine dY ?_;unfold fW;rw[aO];simp;rfl';rw[aO,Sm];refine Ex (ps:=[]) (h1:=h) rfl rfl ?_;let g0:(h++[MO.ins "Tree" []])[h.length]?=a_ (.ins "Tree" []):=aN;refine Nx g0 λx y h1 k1 g1=>⟨rfl,?_⟩;let x1:P2 h1:=Kp1.ext (z_ _) k1 (zd _);simp;refine⟨_,jG (x1 _ _ g) (by simp),?_⟩;let k2:Kp1 l h (h1.set l (MO.ins "Folding" (lV "tree" (.ref h.length) []))):=(Kp1.of x1).tr Kp1.set;let f2:(h1.set l (MO.ins "Folding" (lV "tree" (.ref h.length) [])))[l]?=a_ (.ins "Folding" [("tree",.ref h.length)]):=cG (x1 _ _ g);let t2:(h1.set l (MO.ins "Folding" (lV "tree" (.ref h.length) [])))[h.length]?=a_ _:=bC g1 ⋯;generalize h1.set l (MO.ins "Folding" (lV "tree" (.ref h.length) []))=h2 at k2 f2 t2;rfl';rw[aO];let r2:=k2 _ _ nr gr;let hc:=kT (m:=mV 2) (js:=[b_]) (tg:=gN 0) (tst:=kQ) (elt:=mSl (mV 0) qA (mP (o_ 4))) (δ:=[c_ l,a_ (.tup [.ref lr,.ref lx]),c_ lr,c_ lx,b_,b_,b_,b_,b_]) (h:=h2) (h1:=h2) (n:=lr) (ys:=ts) (emb:=dS) (λt=>a_ (iS t)) (by simp) r2 ⋯
  (λt _=>⟨[a_ (dS t)],by simp[gZ],λh _=>⟨rfl,by simp[dS,iS,jN,HT.sIx]⟩⟩)
 rw[filterMap_some]at hc;let x3:Ext h2 (h2++[MO.lst (ts.map iS)]):=z_ _;let r3:(h2++[MO.lst (ts.map iS)])[h2.length]?=a_ (.lst (ts.map iS)):=aN;generalize h2.length=l4 at hc r3;generalize h2++[MO.lst (ts.map iS)]=h3 at hc r3 x3;let mf:=bS (mm:="fill") (n:=2) (tb:=AE) (ms:=aB (dQ [b_] (dX (mV 2)) (gN 0) kQ (mSl (mV 0) qA (mP (o_ 4)))) (aB (mV 3) aE)) (δ:=[c_ l,a_ (.tup [.ref lr,.ref lx]),c_ lr,c_ lx,b_,b_,b_,b_,b_]) (h:=h2) (h1:=h2) (mo:=mUn (bM "tree") (mV 0)) (k:=h.length) (f:=gK) (by have:bM "tree" (.ref l) h2=.ok (.ref h.length) h2:=jC f2 rfl;simp[this]) t2 (by simp[AE]) rfl;rw[QD,mf];simp[hc];refine Pw a hl (x3 _ _ t2) r3 (x3 _ _ (k2 _ _ nx gx)) λlm lf h4 k4 t4 m4 f4=>?_;let k5:Kp1 l h h4:=λi o hi e=>k4 i o (by have:=(yy.mp e).1;omega) (x3 _ _ (k2 i o hi e));let oh:h4[l]?=a_ (.ins "Folding" [("tree",.ref h.length)]):=k4 _ _ ⋯ (x3 _ _ f2);let xb:h.length<h4.length:=(yy.mp t4).1;let⟨o,ho,_,n8⟩:=cH m4;let lmh:=(yy.mp ho).1;let vz:lm≠l:=λz=>by subst z;rw[oh]at ho;cases ho;simp[bX,oh]at m4
 let xg:lf≠l:=λz=>by subst z;rw[oh]at f4;cases f4
 let lfh:=(yy.mp f4).1;rfl';rw[aO];simp;let t9:=Ext.app h4 [MO.dK []] _ _ oh;refine⟨_,jG t9 (by simp),?_⟩;let k6:Kp1 l h ((h4++[MO.dK []]).set l (MO.ins "Folding" (lV "leaves" (.ref h4.length) [("tree",.ref h.length)]))):=k5.tr ((Kp1.of (z_ _)).tr Kp1.set);let q6:FQ ((h4++[MO.dK []]).set l (MO.ins "Folding" (lV "leaves" (.ref h4.length) [("tree",.ref h.length)]))) l h.length lm lf h4.length ts 0:=by refine⟨cG t9,bC (z_ _ _ _ t4) ⋯,n8 _ (bC (z_ _ _ _ ho) (Yw vz)),bC (z_ _ _ _ f4) (Yw xg),⋯,[],Ez (bC aN ⋯),by simp,by simp,λ_ _=>rfl⟩
 generalize (h4++[MO.dK []]).set l (MO.ins "Folding" (lV "leaves" (.ref h4.length) [("tree",.ref h.length)]))=h6 at k6 q6;rfl';generalize h4.length=ll at q6 xb;refine qF (n:=lr) (xs:=ZY 0) (h1:=h6) (λq δ h'=>Kp1 l h h'/\FQ h' l h.length lm lf ll ts q/\h'[lr]?=a_ (.lst (ZY 0))/\∃x4 x5 x6 x7 x8,δ=[c_ l,a_ (.tup [.ref lr,.ref lx]),c_ lr,c_ lx,x4,x5,x6,x7,x8]) (by simp) (k6 _ _ nr gr) ⟨k6,q6,k6 _ _ nr gr,_,_,_,_,_,rfl⟩ ?_ ?_ ?_
 ·rintro q δ h' hq ⟨_,_,r,_⟩;show r
 ·rintro q y' δ h' hy ⟨k7,f7,r7,x4,x5,x6,x7,x8,rfl⟩;rw[zt]at hy;let⟨t,ht,rfl⟩:=Wb.mp hy;let hq:=(yy.mp ht).1;refine⟨[c_ l,a_ (.tup [.ref lr,.ref lx]),c_ lr,c_ lx,a_ (Za 0),a_ (.str "count"),a_ (ZV 0),a_ (.str t.sp),d_ t.v],by simp[dS],?_⟩;let⟨kvs,tl,lk,ck,nk⟩:=f7.le;let ma:=bS (mm:="add_leaf") (n:=2) (tb:=mG) (ms:=aB (mV 4) (aB (mV 5) aE)) (δ:=[c_ l,a_ (.tup [.ref lr,.ref lx]),c_ lr,c_ lx,a_ (Za 0),a_ (.str "count"),a_ (ZV 0),a_ (.str t.sp),d_ t.v]) (h:=h') (h1:=h') (mo:=mV 0) (k:=l) (f:=cA) (by simp) f7.fo (by simp[mG]) rfl;unfold jH;rw[aO,QD,ma];simp;refine SB f7.fo tl ⋯ λh8 k8 c8 t8=>?_;let tl':=t8;let⟨o,ho,_,n8⟩:=cH f7.ma;let⟨o2,c3,_,yt⟩:=cH tl;let d1:l≠ll:=λz=>by subst z;simp[bX,f7.fo]at tl
  let d2:h.length≠ll:=⋯;let d3:lf≠ll:=λz=>by subst z;simp[bX,f7.fa]at tl
  let d4:lr≠ll:=λz=>by subst z;simp[bX,r7]at tl
  let wg:=k8 _ _ d1 f7.fo;let tr8:=k8 _ _ d2 f7.tr;let ma8:=k8 _ _ f7.ne ho;let fa8:=k8 _ _ d3 f7.fa;let r8:=k8 _ _ d4 r7;let b1:=(yy.mp f7.fo).1;let b2:=(yy.mp f7.tr).1;let b3:=(yy.mp f7.fa).1;let b4:=(yy.mp r7).1;let b5:=(yy.mp ho).1;let b6:=(yy.mp c3).1;let ug:aP (eK kvs (Za 0) (.ref h'.length)) (Za 0)=c_ h'.length:=by rw[nL,Zc 0]
  let hs:lU (Za 0) (.ref ll) h8=.ok (.bl true) h8:=by have:lU (Za 0) (.ref ll) h8=.ok (.bl (aP (eK kvs (Za 0) (.ref h'.length)) (Za 0)).isSome) h8:=BF t8 rfl;rw[this,ug];rfl
  let va:vAt (.ref ll) (Za 0) h8=.ok (.ref h'.length) h8:=Dy t8 rfl ug;let fl:bM "leaves" (.ref l) h8=.ok (.ref ll) h8:=jC wg rfl;rfl';let mf:=bS (mm:="fill") (n:=1) (tb:=rX) (ms:=aB (mV 8) aE) (δ:=[c_ l,a_ (.tup [.ref lr,.ref lx]),c_ lr,c_ lx,a_ (Za 0),a_ (.str "count"),a_ (ZV 0),a_ (.str t.sp),d_ t.v]) (h:=h8) (h1:=h8) (mo:=F_ (mUn (bM "leaves") (mV 0)) (mV 4)) (k:=h'.length) (f:=iD) (by simp[fl,va]) c8 (by simp[rX]) rfl;rw[iM];simp[fl,hs,mf];refine dY ?_;unfold oK;simp;refine⟨_,jG c8 (by simp),?_⟩;let fr:∀i o,i≠ll->h'[i]?=a_ o->(h8.set h'.length (MO.ins "Count" (lV "total" (.int t.v) [("total",.int 0)])))[i]?=a_ o:=λi o hi e=>bC (k8 i o hi e) (by have:=(yy.mp e).1;omega);let⟨o3,wu,_,o8⟩:=cH t8;refine⟨λi o hi e=>?_,⟨fr _ _ d1 f7.fo,fr _ _ d2 f7.tr,n8 _ (fr _ _ f7.ne ho),fr _ _ d3 f7.fa,f7.ne,_,o8 _ (bC wu ⋯),?_,λu hu=>?_,λp hp=>?_⟩,fr _ _ d4 r7⟩
  ·show fr _ _ (by have:=(yy.mp e).1;omega) (k7 _ _ hi e)
  ·have:=Ey kvs (Za 0) (.ref h'.length);omega
  ·rw[WQ,ht]at hu;rw[nL];rcases Wc.mp hu with z|z
   ·let⟨c,e1,e2⟩:=ck u z;refine⟨c,?_,fr _ _ (λz=>?_) e2⟩
    ·rw[if_neg (λz2=>Ny a ht u z (oR z2))];show e1
    ·subst z;simp[bX,e2]at tl
   ·rw[z7.mp z,Zc 0];show⟨_,rfl,cG c8⟩
  ·let qi:∀u∈ts.take q,u.nm≠p:=λu hu=>hp u (by rw[WQ,ht];show WR _ hu);let qz:t.nm≠p:=hp t (by rw[WQ,ht];simp);rw[nL,if_neg (λz=>qz (oR z).symm)];show nk p qi
 ·rintro δ h' ⟨k7,f7,r7,x4,x5,x6,x7,x8,rfl⟩;rw[za]at f7;show k _ _ _ _ _ k7 f7
theorem Py{α:Type}{key:α->Zg 0}{x:α}:∀{ys:x_ α},(∀y∈ys,cD (key y) (key x)=false)->G3 key x ys=x::ys
 |[],_=>rfl
 |y::ys,h=>by unfold G3;rw[h y y8];rfl
theorem Gr{α:Type}{key:α->Zg 0}:∀{xs:x_ α},xs.Pairwise (λa b=>cD (key b) (key a)=false)->kW key xs=xs
 |[],_=>rfl
 |x::xs,h=>by let⟨h1,h2⟩:=VY.mp h;unfold kW;rw[Gr h2];show Py h1
theorem Gs{α:Type}{key:α->PV}:∀{xs:x_ α},xs.Pairwise (λa b=>ltN (key b) (key a)=false)->kC key xs=xs
 |[],_=>rfl
 |x::xs,h=>by
  let⟨h1,h2⟩:=VY.mp h;unfold kC;rw[Gs h2];cases xs with
  |nil=>rfl
  |cons y ys=>unfold FZ;rw[h1 y y8];rfl
def Gu(t:Tg):Zg 0:=[.inr t.nm.1,.inl t.nm.2]
def qR(t:Tg):PV:=.tup [.str t.sp,Za 0]
theorem pwT(a:Zf 0){R:Tg->Tg->Prop}(h:∀(i j:Nat)(v w:Int),i<j->R ⟨(hd,(i:Int)+1),⟨#[97+i]⟩,v⟩ ⟨(hd,(j:Int)+1),⟨#[97+j]⟩,w⟩):ts.Pairwise R:=by
 rw[XR];intro i j hi hj ay;let e1:=a i ts[i] (z9 hi);let e2:=a j ts[j] (z9 hj);have:=h i j ts[i].v ts[j].v ay;let c1:(⟨(hd,(i:Int)+1),⟨#[97+i]⟩,ts[i].v⟩:Tg)=ts[i]:=by
  cases hh:ts[i]
  rw[hh]at e1;let⟨z1,z2⟩:=e1;cases z1;cases z2;rfl
 let c2:(⟨(hd,(j:Int)+1),⟨#[97+j]⟩,ts[j].v⟩:Tg)=ts[j]:=by
  cases hh:ts[j]
  rw[hh]at e2;let⟨z1,z2⟩:=e2;cases z1;cases z2;rfl
 rw[c1,c2]at this;show this
theorem Pz(a:Zf 0):kW Gu ts=ts:=Gr (pwT a λi j v w ay=>by
 have:¬ (j:Int)+1=(i:Int)+1:=⋯;simp[Gu,cD,this,keyLt];omega)
theorem PB(a:Zf 0):(ts.map Gu).Nodup:=Xi.mpr (pwT a λi j v w ay z=>by
 have:(i:Int)+1=(j:Int)+1:=by simpa[Gu] using z
 omega)
theorem L0(ts:x_ Tg):pP (ts.map Gu)=true:=by
 unfold pP;cases ts with
 |nil=>rfl
 |cons x M=>rw[zg];simp[Gu,shape];show λa _=>⟨rfl,rfl⟩
theorem SC(n:Nat)(p q:Nm):(ltP (n+1) (pv p) (pv q)).isSome=true:=by
 unfold pv
 change(ltL (ltP n) [.str p.1,.int p.2] [.str q.1,.int q.2]).isSome=true
 unfold ltL;split
 ·unfold ltL;split
  ·rfl
  ·cases n <;> rfl
 ·cases n <;> rfl
theorem okS(ts:x_ Tg):OkN 1 (ts.map qR):=by
 refine⟨⋯,λv hv=>?_,λv hv=>?_,λv hv u hu=>?_⟩
 ·let⟨x,_,rfl⟩:=zm.mp hv;rfl
 ·let⟨x,_,rfl⟩:=zm.mp hv;rfl
 ·let⟨x,_,rfl⟩:=zm.mp hv;let⟨y,_,rfl⟩:=zm.mp hu
  change(ltL (ltP (18+1)) [.str x.sp,pv x.nm] [.str y.sp,pv y.nm]).isSome=true
  unfold ltL;split
  ·unfold ltL;split
   ·rfl
   ·show SC _ _ _
  ·rfl
theorem PC(a:Zf 0):kC qR ts=ts:=Gs (pwT a λi j v w ay=>by
 refine Ib (MH (n:=20) ?_)
 change ltL (ltP 19) [.str ⟨#[97+i]⟩,_] [.str ⟨#[97+j]⟩,_]=a_ true
 unfold ltL;rw[if_neg (by simp;omega)]
 change a_ (decide _)=_
 simp;show List.Lex.rel ⋯)
theorem in1(h:PH):vIn (.str "settle") (.tup [.str "make",.str "move",.str "drop"]) h=.ok (.bl false) h:=(rfl)
theorem in2(h:PH):Bi (.str "settle") (.tup [.str "back",.str "settle"]) h=.ok (.bl false) h:=(rfl)
theorem in3(h:PH):vIn (.str "back") (.tup [.str "make",.str "move",.str "drop"]) h=.ok (.bl false) h:=(rfl)
theorem in4(h:PH):Bi (.str "back") (.tup [.str "back",.str "settle"]) h=.ok (.bl false) h:=(rfl)
theorem PD{d:Dd}(w:Wf d/\d.kd≠.other)(l:Nat)(h:PH):dC [.ref l,dP d] h=.ok (.str "done") h:=by
 let w1:(dC [.ref l,dP d] h).W λq h'=>q=.str "done" /\ h'=h:=by
  refine dY ?_;unfold lA;let⟨⟨_,wa,_⟩,ne⟩:=w;let i2:vIx (dP d) (.int 2) h=.ok (.tup d.act) h:=by unfold dP;simp
  rw[aO];simp[i2];rfl';rw[aO,iM];cases hk:d.kd with
  |other=>exact(ne hk).elim
  |settle=>rw[hk]at wa;let wa:d.act=[.str "settle"]:=wa;rw[wa];simp[in1];rfl';rw[aO,iM];simp[in2];rfl';simp
  |back f l'=>rw[hk]at wa;let wa:d.act=[.str "back",.int f,.int l']:=wa;rw[wa];simp[in3];rfl';rw[aO,iM];simp[in4];rfl';simp
 let⟨q,h',e,rfl,rfl⟩:=kG w1;show e
theorem BV(e:bX h n=a_ kvs):∃o,h[n]?=a_ o/\A8 (a_ o)=true/\oF o=a_ (kvs.map λkv=>.tup [kv.1,kv.2]):=by
 unfold bX at e;split at e
 ·rename_i k hk;cases e;show⟨_,hk,rfl,rfl⟩
 ·rename_i hk;cases e;show⟨_,hk,rfl,rfl⟩
 ·cases e
theorem PF{α:Type}{key:α->Zg 0}{emb:α->PV}{xs:x_ α}(e:mR x h=a_ (xs.map emb))(h1:xs.length<64)(h3:pP (xs.map key)=true)(h4:(xs.map key).Nodup)(hf:∀d∈xs,∀h(Q:PV->PH->Prop),(∀h',P2 h'->Q (tP (key d)) h')->(f [emb d] h).W Q)(k:∀h',P2 h'->Q (.ref h'.length) (h'++[.lst ((kW key xs).map emb)])):(mS f false x h).W Q:=by
 unfold mS;rw[e];dsimp only;rw[if_pos (ke h1)];show Ie (key:=key) xs [] h hf (G6 h1 h3 h4) λh' hx=>k h' hx
theorem FQ.ft{lt:Nat}{q:Nat}(f:K_ q):bM "tree" (.ref l) h=.ok (.ref lt) h:=jC f.fo rfl
theorem FQ.fl{lt:Nat}{q:Nat}(f:K_ q):bM "leaves" (.ref l) h=.ok (.ref ll) h:=jC f.fo rfl
theorem FQ.fm{lt:Nat}{q:Nat}(f:K_ q):bM "made" (.ref lt) h=.ok (.ref lm) h:=jC f.tr rfl
theorem FQ.ff{lt:Nat}{q:Nat}(f:K_ q):bM "failed" (.ref lt) h=.ok (.ref lf) h:=jC f.tr rfl
theorem PJ(a:Zf 0)(hl:ts.length<=5){lt q:Nat}(f:K_ q)(Q:PV->PH->Prop)(k:∀l h',P2 h'->h'[l]?=a_ (.lst (ts.map iS))->Q (.ref l) h'):(gM [.ref lt] h).W Q:=by
 refine dY ?_;unfold qO;let⟨o,ho,hd,hi⟩:=BV f.ma;let⟨_,_,oo,_⟩:=cH f.ma;let ak:oF o=a_ (ts.map λy=>.tup [pv y.nm,lE y]):=by rw[hi,Wp];rfl
 let e0:qE dR fD (mUn (bM "made") (mV 0)) [c_ lt] h=.ok (.ref h.length) (h++[.vw 0 lm]):=by simp[f.fm,oo,BK ho hd]
 let c7:(h++[MO.vw 0 lm])[lm]?=a_ o:=z_ _ _ _ ho;let hc:=KM (js:=[b_,b_]) (tg:=gTp 2 (gCn (gN 0) (gCn (gN 1) gNl))) (tst:=kQ) (elt:=ZX (bL (aB (mV 0) aE)) (mV 1)) (δ:=[c_ lt]) (h:=h) (ys:=ts) (emb:=λy=>.tup [pv y.nm,lE y]) (λy=>a_ (iS y)) e0 (Gb aN c7 ak) (by rw[ho];show hd) c7 ⋯
  (λy hy=>⟨[a_ (pv y.nm),a_ (lE y)],by simp[gZ],λh=>⟨rfl,by
   have:bK (.tup [pv y.nm]) (lE y) h=.ok (iS y) h:=by unfold lE iS;rw[Dh (by simp)];rfl
   simp[this]⟩⟩)
 rw[filterMap_some]at hc;let x1:P2 (h++[MO.vw 0 lm]++[MO.lst (ts.map iS)]):=(z_ _).trans (z_ _);let g1:(h++[MO.vw 0 lm]++[MO.lst (ts.map iS)])[(h++[MO.vw 0 lm]).length]?=a_ (.lst (ts.map iS)):=aN;generalize (h++[MO.vw 0 lm]).length=l1 at hc g1;generalize h++[MO.vw 0 lm]++[MO.lst (ts.map iS)]=h1 at hc g1 x1;simp[hc];refine PF (key:=Gu) (BE g1) ⋯ (L0 ts) (PB a) (λd hd h Q kk=>?_) λh' x'=>?_
 ·refine dY ?_;unfold qM;have:vIx (iS d) (.int 0) h=.ok (tP (Gu d)) h:=by unfold iS;simp;rfl
  simp[this];show kk h (Ext.refl _)
 ·rw[Pz a];show k _ _ (x1.trans (x'.trans (z_ _))) aN
theorem SD{lt:Nat}(f:K_ ts.length){t:Tg}(ht:t∈ts):bG [.ref l,Za 0] h=.ok (.int t.v) h:=by
 let w1:(bG [.ref l,Za 0] h).W λq h'=>q=.int t.v/\h'=h:=by
  refine dY ?_;unfold fJ;let⟨kvs,tl,_,ck,_⟩:=f.le;let⟨c,e,gc⟩:=ck t (by rw[Ya];show ht);let hs:lU (Za 0) (.ref ll) h=.ok (.bl true) h:=by have:lU (Za 0) (.ref ll) h=.ok (.bl (Zk (Za 0)).isSome) h:=BF tl rfl;rw[this,e];rfl
  let va:vAt (.ref ll) (Za 0) h=.ok (.ref c) h:=Dy tl rfl e;let mf:=bS (mm:="content") (n:=0) (tb:=oO) (ms:=aE) (δ:=[c_ l,a_ (Za 0)]) (h:=h) (h1:=h) (mo:=F_ (mUn (bM "leaves") (mV 0)) (mV 1)) (k:=c) (f:=dI) (by simp[f.fl,va]) gc (by simp[oO]) rfl;let mc:(dI [.ref c] h).W λq h'=>q=.int t.v/\h'=h:=by refine dY ?_;unfold jR;have:bM "total" (.ref c) h=.ok (.int t.v) h:=jC gc rfl;simp[this]
  simp[f.fl,hs,mf];show mc
 let⟨q,h',e,rfl,rfl⟩:=kG w1;show e
theorem Nz(a:Zf 0)(hl:ts.length<=5){lt:Nat}(f:K_ ts.length)(Q:PV->PH->Prop)(k:∀l l2 h',P2 h'->h.length<=l->h.length<=l2->l≠l2->h'[l]?=a_ (.lst (ZY 0))->h'[l2]?=a_ (.lst [])->Q (.tup [.ref l,.ref l2]) h'):(eE [.ref l] h).W Q:=by
 refine dY ?_;unfold lB;let mr:=bS (mm:="rows") (n:=0) (tb:=vV) (ms:=aE) (δ:=[c_ l]) (h:=h) (h1:=h) (mo:=mUn (bM "tree") (mV 0)) (k:=lt) (f:=gM) (by simp[f.ft]) f.tr (by simp[vV]) rfl;let⟨v,h1,e1,l1,rfl,x1,g1⟩:=kG (PJ a hl f (λv h'=>∃l,v=.ref l/\P2 h'/\h'[l]?=a_ (.lst (ts.map iS))) λl h' x g=>⟨l,rfl,x,g⟩);let f1:=f.ext x1;let hc:=kT (m:=eN "rows" 0 vV (mUn (bM "tree") (mV 0)) aE) (js:=[b_,a_ 0]) (tg:=gN 0) (tst:=kQ) (elt:=ZX (mV 0) (bL (aB (eN "content_of" 1 fU (mV 1) (aB (F_ (mV 0) (o_ 0)) aE)) aE))) (δ:=[c_ l]) (h:=h) (h1:=h1) (n:=l1) (ys:=ts) (emb:=iS) (λt=>a_ (dS t)) (by simp[mr,e1]) g1 ⋯
  (λt ht=>⟨[a_ (iS t),c_ l],by simp[gZ],λh2 x2=>⟨rfl,by
   let f2:=f1.ext x2;let i0:vIx (iS t) (.int 0) h2=.ok (Za 0) h2:=by unfold iS;simp
   let mc:=bS (mm:="content_of") (n:=1) (tb:=fU) (ms:=aB (F_ (mV 0) (o_ 0)) aE) (δ:=[a_ (iS t),c_ l]) (h:=h2) (h1:=h2) (mo:=mV 1) (k:=l) (f:=bG) (by simp) f2.fo (by simp[fU]) rfl;let vp:bK (iS t) (.tup [.int t.v]) h2=.ok (dS t) h2:=by unfold iS dS;rw[Dh (by simp)];rfl
   simp[mc,i0,SD f2 ht,vp]⟩⟩)
 rw[filterMap_some]at hc;let x2:Ext h1 (h1++[MO.lst (ZY 0)]):=z_ _;let g2:(h1++[MO.lst (ZY 0)])[h1.length]?=a_ (.lst (ZY 0)):=aN;let b1:=x1.len;generalize h1.length=l2 at hc g2 b1;generalize h1++[MO.lst (ZY 0)]=h2 at hc g2 x2;let f2:=f1.ext x2;let ml:=bS (mm:="lost") (n:=0) (tb:=AI) (ms:=aE) (δ:=[c_ l]) (h:=h2) (h1:=h2) (mo:=mUn (bM "tree") (mV 0)) (k:=lt) (f:=jI) (by simp[f2.ft]) f2.tr (by simp[AI]) rfl;simp[hc,ml];refine dY ?_;unfold qP;let b2:=(yy.mp g2).1;let b3:=(Z7 0).len;simp[f2.ff,nM f2.fa];show k _ _ _ ((Z7 0).trans (z_ _)) b1 b3 ⋯ (z_ _ _ _ g2) aN
theorem RI.hu{ds:x_ Dd}(nd:(ds.map (·.nm)).Nodup):∀d∈ds,∀e∈ds,d.nm=e.nm->d=e:=by
 induction ds with
 |nil=>intro d hd;cases hd
 |cons x r ih=>
  rw[zg,Xy]at nd;intro d hd e he z;rcases zq.mp hd with rfl|h2
  ·rcases zq.mp he with rfl|h3
   ·rfl
   ·show(nd.1 (zm.mpr ⟨e,h3,z.symm⟩)).elim
  ·rcases zq.mp he with rfl|h3
   ·show(nd.1 (zm.mpr ⟨d,h2,z⟩)).elim
   ·show ih nd.2 d h2 e h3 z
structure Aa(ds:x_ Dd):Prop where
 wf:∀d∈ds,Wf d/\d.kd≠.other
 nd:(ds.map (·.nm)).Nodup
 ln:ds.length<=63
variable{ld:Nat}
theorem JI(a:Zf 0)(hl:ts.length<=5){ds:x_ Dd}(D:Aa ds)(gr:h[lr]?=a_ (.lst (ZY 0)))(gx:h[lx]?=a_ (.lst []))(gd:h[ld]?=a_ (.lst (ds.map dP)))(Q:PV->PH->Prop)(k:∀l l2 h',P2 h'->h.length<=l->h.length<=l2->l≠l2->h'[l]?=a_ (.lst (ZY 0))->h'[l2]?=a_ (.lst [])->Q (.tup [.ref l,.ref l2]) h'):(yJ [.tup [.ref lr,.ref lx],.ref ld] h).W Q:=by
 refine dY ?_;unfold Ir;rw[aO,QC];refine Ex (ps:=[.tup [.ref lr,.ref lx]]) (h1:=h) (by simp) rfl ?_;let g0:(h++[MO.ins "Folding" []])[h.length]?=a_ (.ins "Folding" []):=aN;refine Gq a hl g0 (z_ _ _ _ gr) (z_ _ _ _ gx) λlt lm lf ll h1 k1 f1=>⟨rfl,?_⟩;let x1:P2 h1:=Kp1.ext (z_ _) k1 (zd _);generalize h.length=l at f1;rfl';rw[aO];let⟨v,h2,e2,os,lo,rfl,x2,g2,mem⟩:=kG (zX ds (λd hd=>(D.wf d hd).1) D.ln (RI.hu D.nd) ld h1 (x1 _ _ gd) (λv h'=>∃os l,v=.ref l/\Ext h1 h'/\h'[l]?=a_ (.lst (os.map dP))/\∀d,d∈os↔d∈ds) λos l h' x g _ m _=>⟨os,l,rfl,x,g,m⟩);refine qF (n:=lo) (xs:=os.map dP) (h1:=h2) (λq δ h'=>h'=h2/\∃x3,δ=[a_ (.tup [.ref lr,.ref lx]),c_ ld,c_ l,x3]) (by simp[e2]) g2 ⟨rfl,_,rfl⟩ ?_ ?_ ?_
 ·rintro q δ h' hq ⟨rfl,_⟩;show g2
 ·rintro q y δ h' hy ⟨rfl,x3,rfl⟩;rw[zt]at hy;let⟨d,hd,rfl⟩:=Wb.mp hy;refine⟨_,rfl,?_⟩;let hw:=D.wf d ((mem d).mp (Wn hd));let f2:=f1.ext x2;let mh:=bS (mm:="hear") (n:=1) (tb:=AJ) (ms:=aB (mV 3) aE) (δ:=[a_ (.tup [.ref lr,.ref lx]),c_ ld,c_ l,a_ (dP d)]) (h:=h') (h1:=h') (mo:=mV 2) (k:=l) (f:=dC) (by simp) f2.fo (by simp[AJ]) rfl;unfold Gh;simp[mh,PD hw]
 ·rintro δ h' ⟨rfl,x3,rfl⟩;let f2:=f1.ext x2;rfl';let mb:=bS (mm:="base") (n:=0) (tb:=AK) (ms:=aE) (δ:=[a_ (.tup [.ref lr,.ref lx]),c_ ld,c_ l,x3]) (h:=h') (h1:=h') (mo:=mV 2) (k:=l) (f:=eE) (by simp) f2.fo (by simp[AK]) rfl;simp[mb];have:=(Z7 0).len;show Nz a hl f2 _ λl l2 h3 x3 b1 b2 ne g3 g4=>k l l2 h3 ((Z7 0).trans x3) ⋯ ⋯ ne g3 g4
theorem Gv{t:Tg}:∀{ts:x_ Tg},t∈ts->(∀u∈ts,u.nm=t.nm->u=t)->aP (ts.map A9) (Za 0)=a_ (lE t)
 |[],h,_=>nomatch h
 |u::ts,h,hu=>by
  rw[zg];unfold aP
  change(if pv u.nm=Za 0 then a_ (lE u) else _)=_
  by_cases e:u.nm=t.nm
  ·rw[if_pos (by rw[e]),hu u y8 e]
  ·rw[if_neg (λz=>e (oR z))];show Gv ((zq.mp h).resolve_left λz=>e (by rw[z])) λu h=>hu u (y9 _ h)
def nmP(t:Tg):PV:=Za 0
theorem Iy(a:Zf 0){t:Tg}(ht:t∈ts):∃i:Nat,ts[i]?=a_ t/\t.nm=(hd,(i:Int)+1):=by
 let⟨i,hi,e⟩:=List.mem_iff_getElem.mp ht;let e2:ts[i]?=a_ t:=by rw[z9 hi,e]
 show⟨i,e2,(a i t e2).1⟩
theorem EA(a:Zf 0){t:Tg}(ht:t∈ts):t.nm≠root:=λz=>by let⟨i,_,e⟩:=Iy a ht;rw[e]at z;have:(i:Int)+1=0:=(Prod.ext_iff.mp z).2;omega
theorem UA(a:Zf 0){t:Tg}(ht:t∈ts):∀u∈ts,u.nm=t.nm->u=t:=λu hu z=>by
 let⟨i,e1,e2⟩:=Iy a ht;let⟨j,e3,e4⟩:=Iy a hu;rw[e2,e4]at z;have:(j:Int)+1=(i:Int)+1:=(Prod.ext_iff.mp z).2;have:j=i:=⋯;subst this;rw[e1]at e3;show(zl e3).symm
theorem JJ(p q:Nm)(h:PH):vEq (pv p) (pv q) h=.ok (.bl (decide (p=q))) h:=by
 rw[HY rfl rfl];by_cases e:p=q
 ·simp[e]
 ·have:¬ pv p=pv q:=λz=>e (oR z);simp[e,this]
theorem Dz(lt:Nat)(h:PH):bA [.ref lt,ZV 0] h=.ok (.str "map") h:=by
 let w:(bA [.ref lt,ZV 0] h).W λq h'=>q=.str "map" /\ h'=h:=by refine dY ?_;unfold iB;rw[aO,iM];let e:vEq (ZV 0) (.tup [.str "",.int 0]) h=.ok (.bl true) h:=JJ root root h;simp[e]
 let⟨q,h',e,rfl,rfl⟩:=kG w;show e
theorem FQ.at(a:Zf 0){lt q:Nat}(f:K_ q){t:Tg}(ht:t∈ts):lU (Za 0) (.ref lm) h=.ok (.bl true) h/\vAt (.ref lm) (Za 0) h=.ok (lE t) h:=by let e:=Gv ht (UA a ht);refine⟨?_,Dy f.ma rfl e⟩;have:lU (Za 0) (.ref lm) h=.ok (.bl (aP (ts.map A9) (Za 0)).isSome) h:=BF f.ma rfl;rw[this,e];rfl
theorem NA(a:Zf 0){lt q:Nat}(f:K_ q){t:Tg}(ht:t∈ts):bA [.ref lt,Za 0] h=.ok (.str "count") h:=by
 let w:(bA [.ref lt,Za 0] h).W λq h'=>q=.str "count" /\ h'=h:=by
  refine dY ?_;unfold iB;rw[aO,iM];let e:vEq (Za 0) (.tup [.str "",.int 0]) h=.ok (.bl false) h:=by have:=JJ t.nm root h;rw[decide_eq_false (EA a ht)]at this;show this
  let⟨e1,e2⟩:=f.at a ht;let e3:vIx (lE t) (.int 0) h=.ok (.str "count") h:=by unfold lE;simp
  simp[e];rfl';simp[f.fm,e1,e2,e3]
 let⟨q,h',e,rfl,rfl⟩:=kG w;show e
theorem SF(a:Zf 0){lt q:Nat}(f:K_ q){t:Tg}(ht:t∈ts):fI [.ref lt,Za 0] h=.ok (.tup [ZV 0,.str t.sp]) h:=by
 let w:(fI [.ref lt,Za 0] h).W λq h'=>q=.tup [ZV 0,.str t.sp]/\h'=h:=by
  refine dY ?_;unfold qK;let⟨e1,e2⟩:=f.at a ht;let e3:vSl (lE t) (a_ 1) b_ h=.ok (.tup [ZV 0,.str t.sp]) h:=by unfold lE;rw[OX,Sz];rfl
  simp[f.fm,e1,e2,e3]
 let⟨q,h',e,rfl,rfl⟩:=kG w;show e
def wi(ts:x_ Tg)(p:Nm):x_ Tg:=if p=root then ts else[]
theorem DA{α:Type}(f:α->PV):∀xs:x_ α,kC id (xs.map f)=(kC f xs).map f
 |[]=>rfl
 |x::xs=>by
  rw[zg];unfold kC;rw[DA f xs];generalize kC f xs=ys
  induction ys with
  |nil=>rfl
  |cons y ys ih=>
   rw[zg];unfold FZ;rw[ih]
   change(if ltN (f y) (f x)=true then _ else _)=_
   split
   ·rfl
   ·rfl
theorem DB(a:Zf 0)(hl:ts.length<=5){lt q:Nat}(f:K_ q){p:Nm}(hp:p=root\/∃t∈ts,p=t.nm)(Q:PV->PH->Prop)(k:∀l h',P2 h'->h'[l]?=a_ (.lst ((wi ts p).map nmP))->h.length<=l->Q (.ref l) h'):(cU [.ref lt,pv p] h).W Q:=by
 refine dY ?_;unfold mT;rw[aO];let⟨o,ho,hd,hi⟩:=BV f.ma;let⟨_,_,oo,_⟩:=cH f.ma;let ak:oF o=a_ (ts.map λy=>.tup [pv y.nm,lE y]):=by rw[hi,Wp];rfl
 let e0:qE dR fD (mUn (bM "made") (mV 0)) [c_ lt,a_ (pv p),b_] h=.ok (.ref h.length) (h++[.vw 0 lm]):=by simp[f.fm,oo,BK ho hd]
 let c7:(h++[MO.vw 0 lm])[lm]?=a_ o:=z_ _ _ _ ho;let hc:=Ef (i:=2) (js:=[b_,b_,a_ 1]) (tg:=gTp 2 (gCn (gN 0) (gCn (gN 1) gNl))) (tst:=bW (aG vEq (F_ (mV 1) (o_ 1)) (mV 2))) (elt:=bL (aB (F_ (mV 1) (o_ 2)) (aB (mV 0) aE))) (δ:=[c_ lt,a_ (pv p),b_]) (h:=h) (ys:=ts) (emb:=λy=>.tup [pv y.nm,lE y]) (λy=>if root=p then a_ (qR y) else b_) e0 (Gb aN c7 ak) (by rw[ho];show hd) c7 ⋯
  (λy hy=>⟨[a_ (pv y.nm),a_ (lE y),a_ (pv p)],by simp[gZ],λh=>by
   let r1:vIx (lE y) (.int 1) h=.ok (ZV 0) h:=by unfold lE;simp
   let r2:vIx (lE y) (.int 2) h=.ok (.str y.sp) h:=by unfold lE;simp
   by_cases e:root=p
   ·simp[r1,r2,JJ,e,qR]
   ·simp[r1,JJ,e]⟩)
 let ew:ts.filterMap (λy=>if root=p then a_ (qR y) else b_)=(wi ts p).map qR:=by
  unfold wi;by_cases e:p=root
  ·subst e;simp
  ·let e2:¬ root=p:=λz=>e z.symm;simp[e,e2]
 rw[ew]at hc;let x1:P2 (h++[MO.vw 0 lm]++[MO.lst ((wi ts p).map qR)]):=(z_ _).trans (z_ _);let g1:(h++[MO.vw 0 lm]++[MO.lst ((wi ts p).map qR)])[(h++[MO.vw 0 lm]).length]?=a_ (.lst ((wi ts p).map qR)):=aN;generalize (h++[MO.vw 0 lm]).length=l1 at hc g1;generalize h++[MO.vw 0 lm]++[MO.lst ((wi ts p).map qR)]=hA at hc g1 x1;let bu:(yG true (qE dR fD (mUn (bM "made") (mV 0))) (bZ 2 (dQ [b_,b_,a_ 1] (sP true (qE dR fD (mUn (bM "made") (mV 0)))) (gTp 2 (gCn (gN 0) (gCn (gN 1) gNl))) (bW (aG vEq (F_ (mV 1) (o_ 1)) (mV 2))) (bL (aB (F_ (mV 1) (o_ 2)) (aB (mV 0) aE))))) ([PV.ref lt,pv p].map a_++XO (3 - [PV.ref lt,pv p].length) b_) h)=.nx [c_ lt,a_ (pv p),c_ l1] hA:=hc;rw[bu,Vt];clear bu hc;rfl';let fA:=f.ext x1;let m1:=bS (mm:="kind_of") (n:=1) (tb:=dN) (ms:=aB (mV 1) aE) (δ:=[c_ lt,a_ (pv p),c_ l1]) (h:=hA) (h1:=hA) (mo:=mV 0) (k:=lt) (f:=bA) (by simp) fA.tr (by simp[dN]) rfl;let ek:∃z:Str,bA [.ref lt,pv p] hA=.ok (.str z) hA/\vEq (.str z) (.str "row") hA=.ok (.bl false) hA:=by
  rcases hp with rfl|⟨t,ht,rfl⟩
  ·show⟨_,Dz _ _,rfl⟩
  ·show⟨_,NA a fA ht,rfl⟩
 let⟨z,ez,eq⟩:=ek;rw[aO,iM];simp[m1,ez,eq];rfl';let lW:(wi ts p).length<=5:=by unfold wi;split <;> simp[hl]
 let iW:kC qR (wi ts p)=wi ts p:=by
  unfold wi;split
  ·show PC a
  ·rfl
 let es:=G0 g1 (by rw[za];omega) (okS _);rw[DA,iW]at es;let gs:(hA++[MO.lst ((wi ts p).map qR)])[hA.length]?=a_ (.lst ((wi ts p).map qR)):=aN;let xs:Ext hA (hA++[MO.lst ((wi ts p).map qR)]):=z_ _;generalize hA.length=ls at es gs;generalize hA++[MO.lst ((wi ts p).map qR)]=hC at es gs xs;let hc:=kT (m:=mCB nF (aB (mV 2) aE)) (js:=[b_,b_]) (tg:=gTp 2 (gCn (gN 0) (gCn (gN 1) gNl))) (tst:=kQ) (elt:=mV 1) (δ:=[c_ lt,a_ (pv p),c_ l1]) (h:=hA) (h1:=hC) (n:=ls) (ys:=wi ts p) (emb:=qR)
  (λx=>a_ (nmP x)) (by simp[es]) gs ⋯ (λx hx=>⟨[a_ (.str x.sp),a_ (pv x.nm)],by simp[gZ,qR],λh _=>⟨rfl,by simp[nmP]⟩⟩)
 rw[filterMap_some]at hc;let ll:=(x1.trans xs).len;rw[Ml,hc,CA];show k _ _ (x1.trans (xs.trans (z_ _))) aN ll
variable{body:Ms}
unseal Fl.W Rs.W in
theorem PK{t:Ev->PH->ZH 0}(I:Nat->Ev->PH->Prop)(step:∀m δ h,I m δ h->(t δ h).W λb h1=>if b=true then(body δ h1).W { nx:=λδ h=>∃m',m'<m/\I m' δ h,ct:=λδ h=>∃m',m'<m/\I m' δ h,rt:=E.rt,bk:=E.nx} else E.nx δ h1):
  ∀(n m:Nat),m<n->∀δ h,I m δ h->(E3 n t body δ h).W E:=by
 intro n
 induction n with
 |zero=>intro m hm;show absurd hm (Nat.not_lt_zero _)
 |succ n ih=>
  intro m hm δ h hi;let hs:=step m δ h hi;unfold E3 Df;rw[HV];refine HW hs λb h1 hb=>?_;cases b with
  |false=>simpa using hb
  |true=>
   rw[Zc 0]at hb;dsimp only;cases e:body δ h1 with
   |nx δ2 h2=>rw[e]at hb;let⟨m',h3,h4⟩:=hb;show ih m' ⋯ δ2 h2 h4
   |ct δ2 h2=>rw[e]at hb;let⟨m',h3,h4⟩:=hb;show ih m' ⋯ δ2 h2 h4
   |bk δ2 h2=>rw[e]at hb;show hb
   |rt p h2=>rw[e]at hb;show hb
   |exc p h2=>rw[e]at hb;show hb
   |bad=>rw[e]at hb;show hb
theorem EB(e:h[n]?=a_ (.lst xs)):tru (.ref n) h=.ok (!xs.isEmpty) h:=by
 have:aZ h n=a_ xs:=by simp[aZ,e]
 unfold tru;simp only[this]
theorem PL{p:PV}(e:h[n]?=a_ (.lst (xs++[p]))):onL Ku (.ref n) [] h=.ok p (ZK (.lst xs)):=by simp[onL,dA,e,Ku]
variable{F:Y9 0}{x3:y_ PV}
theorem Gw(a:Zf 0)(hl:ts.length<=5){lt q:Nat}(f:K_ q){p:Nm}(hp:p=root\/∃t∈ts,p=t.nm)(x:P2 h'){L:Y9 0}(gF:h'[h.length]?=a_ (.lst F))(gL:h'[h.length+1]?=a_ (.lst (L++[pv p])))(hF:F.length<=100)(hL:L.length<=100)(k:∀h2,P2 h2->h2[h.length]?=a_ (.lst (F++[pv p]))->h2[h.length+1]?=a_ (.lst (L++(wi ts p).map nmP))->E.nx [c_ l,Z8 0,c_ (h.length+1),a_ (pv p)] h2):(fT [c_ l,Z8 0,c_ (h.length+1),x3] h').W E:=by
 unfold fT;rw[aO];let pp:=PL gL;simp[fB gL,pp];let x1:P2 (h'.set (h.length+1) (.lst L)):=x.setN ⋯;let g1:=cG (o':=MO.lst L) gL;let nc:(h'.set (h.length+1) (.lst L))[h.length]?=a_ (.lst F):=bC gF ⋯;generalize h'.set (h.length+1) (.lst L)=h1 at x1 g1 nc;rfl';rw[aO];let ap:=dM (p:=pv p) nc ⋯;simp[fB nc,ap];let x2:P2 (h1.set h.length (.lst (F++[pv p]))):=x1.setN ⋯;let g2:(h1.set h.length (.lst (F++[pv p])))[h.length+1]?=a_ (.lst L):=bC g1 ⋯;let sj:=cG (o':=MO.lst (F++[pv p])) nc;generalize h1.set h.length (.lst (F++[pv p]))=h2 at x2 g2 sj;let f2:=f.ext x2;rfl';let mw:=bS (mm:="within") (n:=1) (tb:=fO) (ms:=aB (mV 3) aE) (δ:=[c_ l,Z8 0,c_ (h.length+1),a_ (pv p)]) (h:=h2) (h1:=h2) (mo:=mUn (bM "tree") (mV 0)) (k:=lt) (f:=cU) (by simp[f2.ft]) f2.tr (by simp[fO]) rfl;simp[fB g2,mw];refine DB a hl f2 hp _ λlw h3 x3 g3 b3=>?_;let lw5:(wi ts p).length<=5:=by unfold wi;split <;> simp[hl]
 let ex:=KQ (x3 _ _ g2) g3 (by rw[za];omega);simp[ex];show k _ ((x2.trans x3).setN ⋯) (bC (x3 _ _ sj) ⋯) (cG (x3 _ _ g2))
def HI(ts:x_ Tg)(l:Nat)(h:PH)(m:Nat)(δ:Ev)(h':PH):Prop:=P2 h'/\∃F L x3,h'[h.length]?=a_ (.lst F)/\h'[h.length+1]?=a_ (.lst L)/\δ=[c_ l,Z8 0,c_ (h.length+1),x3]/\((m=ts.length+1/\F=[]/\L=[]++[ZV 0])\/(m<=ts.length/\F=ZV 0::((ts.drop m).map nmP).reverse/\L=(ts.take m).map nmP))
theorem Iz(a:Zf 0)(hl:ts.length<=5){lt q:Nat}(f:K_ q)(Q:PV->PH->Prop)(k:∀l h',P2 h'->h'[l]?=a_ (.lst (pv root::(ts.map nmP).reverse))->h.length<=l->Q (.ref l) h'):(cN [.ref l] h).W Q:=by
 refine dY ?_;unfold iC;rw[aO];simp;let x0:P2 (h++[MO.lst []]):=z_ _;let g0:(h++[MO.lst []])[h.length]?=a_ (.lst []):=aN;let l0:(h++[MO.lst []]).length=h.length+1:=by simp
 generalize h++[MO.lst []]=hA at x0 g0 l0;rfl';rw[aO];simp;let x1:Ext hA (hA++[MO.lst [ZV 0]]):=z_ _;let g1:(hA++[MO.lst [ZV 0]])[hA.length]?=a_ (.lst ([]++[ZV 0])):=aN;let e1:hA++[MO.lst [.tup [.str "",.int 0]]]=hA++[MO.lst [ZV 0]]:=rfl;rw[e1];rw[l0]at g1⊢;let gA:=x1 _ _ g0;let xA:=x0.trans x1;generalize hA++[MO.lst [ZV 0]]=hB at xA g1 gA;rfl';rw[aO];refine PK (HI ts l h) ?_ 1000000 (ts.length+1) ⋯ _ _ ⟨xA,[],_,_,gA,g1,rfl,.inl ⟨rfl,rfl,rfl⟩⟩;rintro m δ h' ⟨x,F,L,x3,gF,gL,rfl,c⟩;rcases c with⟨rfl,rfl,rfl⟩|⟨hm,rfl,rfl⟩
 ·simp[EB gL];refine Gw a hl f (.inl rfl) x gF gL (by simp) (by simp) λh2 x2 a1 a2=>⟨ts.length,⋯,x2,_,_,_,a1,a2,rfl,.inr ⟨⋯,?_,?_⟩⟩
  ·simp
  ·simp[wi]
 ·cases m with
  |zero=>simp[EB gL];rfl';simp;show k _ _ x (ke gF) ⋯
  |succ j=>
   let hj:j<ts.length:=⋯;let ej:ts.take (j+1)=ts.take j++[ts[j]]:=by rw[WQ,z9 hj];rfl
   let mj:ts[j]∈ts:=Xd _;let tw:h'[h.length+1]?=a_ (.lst ((ts.take j).map nmP++[pv ts[j].nm])):=by rw[gL,ej,WB];rfl
   simp[EB tw];refine Gw a hl f (.inr ⟨ts[j],mj,rfl⟩) x gF tw (by simp;omega) (by simp;omega) λh2 x2 a1 a2=>⟨j,⋯,x2,_,_,_,a1,a2,rfl,.inr ⟨⋯,?_,?_⟩⟩
   ·rw[List.drop_eq_getElem_cons hj,zg,List.reverse_cons];rfl
   ·have:wi ts ts[j].nm=[]:=by unfold wi;rw[if_neg (EA a mj)]
    rw[this];simp
variable{tg:Mg}
theorem SH(I:Nat->Ev->PH->Prop)(e:ms δ h=.ok [.ref n] h1)(hn:h1[n]?=a_ (.lst xs))(h0:I 0 δ h1)(keep:∀q δ h,q<=xs.length->I q δ h->h[n]?=a_ (.lst xs))(step:∀(q:Nat) x δ h,xs.reverse[q]?=a_ x->I q δ h->∃δ1,tg x δ=a_ δ1/\(body δ1 h).W { nx:=I (q+1),ct:=I (q+1),rt:=E.rt,bk:=E.nx})(fin:∀δ h,I xs.length δ h->E.nx δ h):(pN (Pe ms) tg body δ h).W E:=by
 let hk:∀{h:PH},h[n]?=a_ (.lst xs)->Bl n xs h=true:=λ{h} e=>by
  let e3:aZ h n=a_ xs:=by unfold aZ;rw[e]
  unfold Bl;rw[e3];show PV.beqs_self xs
 unfold pN Pe;rw[e];let e2:rvI [.ref n] h1=.ok ⟨xs.reverse,Bl n xs⟩ h1:=by
  let e3:aZ h1 n=a_ xs:=by unfold aZ;rw[hn]
  unfold rvI;simp only[e3]
 rw[Rs.bind_ok,e2,Rs.fl_ok];refine E5 I _ 0 δ h1 h0 (λq x δ h _ hx hi=>?_) (λδ h hi=>?_)
 ·let cm:xs.reverse[q]?=a_ x:=by simpa using hx
  have:=(yy.mp cm).1;rw[YJ]at this;show⟨hk (keep q δ h ⋯ hi),step q x δ h cm hi⟩
 ·let ak:I xs.length δ h:=by simpa using hi
  show⟨hk (keep _ δ h (zd _) ak),fin δ h ak⟩
def tell(t:Tg):PV:=.tup [.str "count",.int t.v]
def oS(t:Tg):PV:=.tup [.str t.sp,Za 0,tell t]
theorem SJ(a:Zf 0){lt:Nat}(f:K_ ts.length){t:Tg}(ht:t∈ts)(n:Nat):bI [.ref l,Za 0,.ref n] h=.ok (tell t) h:=by
 let w:(bI [.ref l,Za 0,.ref n] h).W λq h'=>q=tell t/\h'=h:=by
  refine dY ?_;unfold fE;let mk:=bS (mm:="kind_of") (n:=1) (tb:=dN) (ms:=aB (mV 1) aE) (δ:=[c_ l,a_ (Za 0),c_ n,b_]) (h:=h) (h1:=h) (mo:=mUn (bM "tree") (mV 0)) (k:=lt) (f:=bA) (by simp[f.ft]) f.tr (by simp[dN]) rfl;rw[aO];simp[mk,NA a f ht];rfl';let⟨kvs,tl,_,ck,_⟩:=f.le;let⟨c,e,gc⟩:=ck t (by rw[Ya];show ht);let hs:lU (Za 0) (.ref ll) h=.ok (.bl true) h:=by have:lU (Za 0) (.ref ll) h=.ok (.bl (Zk (Za 0)).isSome) h:=BF tl rfl;rw[this,e];rfl
  let va:vAt (.ref ll) (Za 0) h=.ok (.ref c) h:=Dy tl rfl e;let mf:=bS (mm:="told") (n:=0) (tb:=AD) (ms:=aE) (δ:=[c_ l,a_ (Za 0),c_ n,a_ (.str "count")]) (h:=h) (h1:=h) (mo:=F_ (mUn (bM "leaves") (mV 0)) (mV 1)) (k:=c) (f:=cS) (by simp[f.fl,va]) gc (by simp[AD]) rfl;let mc:cS [.ref c] h=.ok (.int t.v) h:=by
   let w:(cS [.ref c] h).W λq h'=>q=.int t.v/\h'=h:=by refine dY ?_;unfold oH;have:bM "total" (.ref c) h=.ok (.int t.v) h:=jC gc rfl;simp[this]
   let⟨q,h',e,rfl,rfl⟩:=kG w;show e
  rw[aO,iM];simp[f.fl,hs,mf,mc,tell]
 let⟨q,h',e,rfl,rfl⟩:=kG w;show e
theorem L1(a:Zf 0)(hl:ts.length<=5){lt:Nat}(f:K_ ts.length)(tn:bX h n=a_ kvs)(hk:∀t∈ts,Zk (Za 0)=a_ (tell t))(Q:PV->PH->Prop)(k:∀l2 h',P2 h'->h.length<=l2->h'[l2]?=a_ (.lst (ts.map oS))->Q (.tup [.str "map",.ref l2]) h'):(bI [.ref l,ZV 0,.ref n] h).W Q:=by
 refine dY ?_;unfold fE;let mk:=bS (mm:="kind_of") (n:=1) (tb:=dN) (ms:=aB (mV 1) aE) (δ:=[c_ l,a_ (ZV 0),c_ n,b_]) (h:=h) (h1:=h) (mo:=mUn (bM "tree") (mV 0)) (k:=lt) (f:=bA) (by simp[f.ft]) f.tr (by simp[dN]) rfl;rw[aO];simp[mk,Dz];rfl';let⟨vb,tl,_,_,nk⟩:=f.le;let hs:lU (ZV 0) (.ref ll) h=.ok (.bl false) h:=by have:lU (ZV 0) (.ref ll) h=.ok (.bl (aP vb (ZV 0)).isSome) h:=BF tl rfl;rw[this,nk root λt ht=>EA a (List.mem_of_mem_take ht)];rfl
 rw[aO,iM];simp[f.fl,hs];rfl';let mw:=bS (mm:="within") (n:=1) (tb:=fO) (ms:=aB (mV 1) aE) (δ:=[c_ l,a_ (ZV 0),c_ n,a_ (.str "map")]) (h:=h) (h1:=h) (mo:=mUn (bM "tree") (mV 0)) (k:=lt) (f:=cU) (by simp[f.ft]) f.tr (by simp[fO]) rfl;let⟨v,h1,e1,lw,rfl,x1,g1⟩:=kG (DB a hl f (.inl rfl) (λv h'=>∃l,v=.ref l/\P2 h'/\h'[l]?=a_ (.lst (ts.map nmP))) λl h' x g _=>⟨l,rfl,x,by simpa[wi] using g⟩)
 let f1:=f.ext x1;let hc:=kT (m:=eN "within" 1 fO (mUn (bM "tree") (mV 0)) (aB (mV 1) aE)) (js:=[b_,a_ 2,a_ 0]) (tg:=gN 0) (tst:=kQ) (elt:=bL (aB (F_ (eN "held" 1 vT (mUn (bM "tree") (mV 2)) (aB (mV 0) aE)) (o_ 1)) (aB (mV 0) (aB (F_ (mV 1) (mV 0)) aE)))) (δ:=[c_ l,a_ (ZV 0),c_ n,a_ (.str "map")]) (h:=h) (h1:=h1) (n:=lw) (ys:=ts) (emb:=nmP) (λt=>a_ (oS t)) (by simp[mw,e1]) g1 ⋯
  (λt ht=>⟨[a_ (Za 0),c_ n,c_ l],by simp[gZ,nmP],λh2 x2=>⟨rfl,by let f2:=f1.ext x2;let mh:=bS (mm:="held") (n:=1) (tb:=vT) (ms:=aB (mV 0) aE) (δ:=[a_ (Za 0),c_ n,c_ l]) (h:=h2) (h1:=h2) (mo:=mUn (bM "tree") (mV 2)) (k:=lt) (f:=fI) (by simp[f2.ft]) f2.tr (by simp[vT]) rfl;let va:vAt (.ref n) (Za 0) h2=.ok (tell t) h2:=Dy (dZ (Z7 0) tn) rfl (hk t ht);simp[mh,SF a f2 ht,va,oS]⟩⟩)
 rw[filterMap_some]at hc;simp[hc];show k _ _ (x1.trans (z_ _)) x1.len aN
theorem NB(a:Zf 0)(hl:ts.length<=5){lt:Nat}(f:K_ ts.length)(Q:PV->PH->Prop)(k:∀l2 h',P2 h'->h.length<=l2->h'[l2]?=a_ (.lst (ts.map oS))->Q (.tup [.str "map",.ref l2]) h'):(eD [.ref l] h).W Q:=by
 refine dY ?_;unfold kZ;rw[aO];simp;let x0:P2 (h++[MO.dK []]):=z_ _;let t0:bX (h++[MO.dK []]) h.length=a_ []:=Ez aN;let l0:(h++[MO.dK []]).length=h.length+1:=by simp
 generalize h++[MO.dK []]=hA at x0 t0 l0;let fA:=f.ext x0;rfl';rw[aO];let mh:=bS (mm:="hanging") (n:=0) (tb:=oI) (ms:=aE) (δ:=[c_ l,Z8 0,b_]) (h:=hA) (h1:=hA) (mo:=mV 0) (k:=l) (f:=cN) (by simp) fA.fo (by simp[oI]) rfl;let⟨v,h1,e1,lh,rfl,x1,g1,b1⟩:=kG (Iz a hl fA (λv h'=>∃l,v=.ref l/\Ext hA h'/\h'[l]?=a_ (.lst (pv root::(ts.map nmP).reverse))/\hA.length<=l) λl h' x g b=>⟨l,rfl,x,g,b⟩);refine SH (n:=lh) (xs:=ZV 0::(ts.map nmP).reverse) (h1:=h1) (λq δ h'=>P2 h'/\h'[lh]?=a_ (.lst (pv root::(ts.map nmP).reverse))/\(∃x2,δ=[c_ l,Z8 0,x2])/\∃kvs,bX h' h.length=a_ kvs/\kvs.length<=q/\(q<=ts.length->∀t∈ts.take q,Zk (Za 0)=a_ (tell t))/\(q=ts.length+1->∃l2,h.length<=l2/\Zk (ZV 0)=a_ (.tup [.str "map",.ref l2])/\h'[l2]?=a_ (.lst (ts.map oS)))) (by simp[mh,e1]) g1 ⟨x0.trans x1,g1,⟨_,rfl⟩,[],dZ x1 t0,by simp,λ_ t ht=>by simp at ht,⋯⟩ ?_ ?_ ?_
 ·rintro q δ h' hq ⟨_,g,_⟩;show g
 ·rintro q y δ h' hy ⟨x,g,⟨x2,rfl⟩,kvs,tk,lk,c1,c2⟩;refine⟨_,rfl,?_⟩;let fh:=f.ext x;let⟨o,ho,_,n8⟩:=cH tk;let mt:∀p:Nm,_:=λp=>bS (mm:="telling") (n:=2) (tb:=oJ) (ms:=aB (mV 2) (aB (mV 1) aE)) (δ:=[c_ l,Z8 0,a_ (pv p)]) (h:=h') (h1:=h') (mo:=mV 0) (k:=l) (f:=bI) (by simp) fh.fo (by simp[oJ]) rfl;unfold nI;by_cases hq:q<ts.length
  ·let ey:y=pv ts[q].nm:=by
    simp at hy;rw[Wj (ke hq)]at hy;simp[hq]at hy;show hy.symm
   subst ey;let hp:nG (.ref h.length) (pv ts[q].nm) (tell ts[q]) h'=a_ (h'.set h.length (.dD (eK kvs (pv ts[q].nm) (tell ts[q])))):=AA tk rfl ⋯;let mt:=mt ts[q].nm;simp[mt,SJ a fh (Xd hq)];refine⟨_,hp,x.setN ⋯,bC g ⋯,_,rT (cG ho),?_,λ_ t ht=>?_,⋯⟩
   ·have:=Ey kvs (pv ts[q].nm) (tell ts[q]);omega
   ·rw[WQ,z9 hq]at ht;rw[nL];rcases Wc.mp ht with z|z
    ·rw[if_neg (λz2=>Ny a (z9 hq) t z (oR z2))];show c1 ⋯ t z
    ·rw[z7.mp z,Zc 0]
  ·let wb:=(yy.mp hy).1;simp at wb;let v5:q=ts.length:=⋯;subst v5;let ey:y=ZV 0:=by simp at hy;show hy.symm
   subst ey;let mt:=mt root;simp[mt];refine L1 a hl fh tk (by simpa using c1 (zd _)) _ λl2 h2 x2 b2 g2=>?_
   let hp:nG (.ref h.length) (ZV 0) (.tup [.str "map",.ref l2]) h2=a_ (h2.set h.length (.dD (eK kvs (ZV 0) (.tup [.str "map",.ref l2])))):=AA (dZ x2 tk) rfl ⋯;let b0:=(yy.mp ho).1;let xl:=x.len;let pl:=Ey kvs (ZV 0) (.tup [.str "map",.ref l2]);show⟨_,hp,(x.trans x2).setN ⋯,bC (x2 _ _ g) ⋯,_,rT (cG (x2 _ _ ho)),⋯,⋯,⟨l2,⋯,by rw[nL,Zc 0],bC g2 ⋯⟩⟩
 ·rintro δ h' ⟨x,g,⟨x2,rfl⟩,kvs,tk,lk,c1,c2⟩;let⟨l2,b2,e2,g2⟩:=c2 (by simp);rfl';let va:vAt (.ref h.length) (.tup [.str "",.int 0]) h'=.ok (.tup [.str "map",.ref l2]) h':=Dy tk rfl e2;simp[va];show k _ _ x b2 g2
theorem PM:¬ (WM "Folding")=WM "Count" := by decide +kernel
theorem JK(a:Zf 0)(hl:ts.length<=5)(gr:h[lr]?=a_ (.lst (ZY 0)))(gx:h[lx]?=a_ (.lst []))(Q:PV->PH->Prop)(k:∀l2 h',P2 h'->h.length<=l2->h'[l2]?=a_ (.lst (ts.map oS))->Q (.tup [.str "map",.ref l2]) h'):(oM [.tup [.ref lr,.ref lx]] h).W Q:=by
 refine dY ?_;unfold Ip;let g0:(h++[MO.ins "Folding" []])[h.length]?=a_ (.ins "Folding" []):=aN;let⟨v,h1,e1,lt,lm,lf,ll,rfl,x1,f1⟩:=kG (Ex (cn:="Folding") (n:=1) (f:=bD) (ms:=aB (mV 0) aE) (δ:=[a_ (.tup [.ref lr,.ref lx])]) (ps:=[.tup [.ref lr,.ref lx]]) (h:=h) (h1:=h) (Q:=λv h'=>∃lt lm lf ll,v=.ref h.length/\P2 h'/\FQ h' h.length lt lm lf ll ts ts.length) (by simp) rfl
  (Gq a hl g0 (z_ _ _ _ gr) (z_ _ _ _ gx) λlt lm lf ll h1 k1 f1=>⟨rfl,lt,lm,lf,ll,rfl,Kp1.ext (z_ _) k1 (zd _),f1⟩))
 let mt:=bS (mm:="told") (n:=0) (tb:=rY) (ms:=aE) (δ:=[a_ (.tup [.ref lr,.ref lx])]) (h:=h) (h1:=h1) (mo:=vQ "Folding" 1 bD (aB (mV 0) aE)) (k:=h.length) (f:=eD) e1 f1.fo (by simp[rY,PM]) rfl;simp[mt,-BH];show NB a hl f1 _ λl2 h2 x2 b2 g2=>k l2 h2 (Z7 0) (by have:=x1.len;omega) g2
theorem Gx(h:PH):jD [] h=.ok (.tup [.ref h.length,.ref (h.length+1)]) (h++[.lst []]++[.lst []]):=by
 let w:(jD [] h).W λq h'=>q=.tup [.ref h.length,.ref (h.length+1)]/\h'=h++[.lst []]++[.lst []]:=by refine dY ?_;unfold El;simp
 let⟨q,h',e,rfl,rfl⟩:=kG w;show e
theorem IA{ds:x_ Dd}(D:Aa ds)(gn:h[n]?=a_ (.lst (ds.map dP)))(Q:PV->PH->Prop)(k:∀l2 h',P2 h'->h'[l2]?=a_ (.lst [])->Q (.tup [.str "map",.ref l2]) h'):(gO [.ref n] h).W Q:=by
 refine dY ?_;unfold yL;let x0:P2 (h++[MO.lst []]++[MO.lst []]):=(z_ _).trans (z_ _);let e0:=Gx h;let ga:(h++[MO.lst []]++[MO.lst []])[h.length]?=a_ (.lst (([]:x_ Tg).map dS)):=z_ _ _ _ aN;let gb:(h++[MO.lst []]++[MO.lst []])[h.length+1]?=a_ (.lst []):=by
  have:h.length+1=(h++[MO.lst []]).length:=by simp
  rw[this];show aN
 generalize h++[MO.lst []]++[MO.lst []]=h1 at x0 e0 ga gb;let⟨v,h2,e2,out,lo,rfl,x2,g2,Do⟩:=kG (Gn ds (λd hd=>(D.wf d hd).1) D.ln (RI.hu D.nd) n h1 (x0 _ _ gn) (λv h'=>∃out l,v=.ref l/\Ext h1 h'/\h'[l]?=a_ (.lst (out.map dP))/\Aa out) λout F l h' x g fo _=>⟨out,l,rfl,x,g,λd hd=>D.wf d ((fo.out d).mp hd).1,fo.nd,by
  let s:out.map (·.nm) ⊆ ds.map (·.nm):=λz hz=>by let⟨d,hd,rfl⟩:=zm.mp hz;show zm.mpr ⟨d,((fo.out d).mp hd).1,rfl⟩
  have:=X5 fo.nd s;have:=D.ln;simp at*;omega⟩)
 let A0:AtT "" []:=λi t e=>nomatch e;let⟨v,h3,e3,la,lb,rfl,x3,g3,g4⟩:=kG (JI A0 (by simp) Do (x2 _ _ ga) (x2 _ _ gb) g2 (λv h'=>∃l l2,v=.tup [.ref l,.ref l2]/\Ext h2 h'/\h'[l]?=a_ (.lst (([]:x_ Tg).map dS))/\h'[l2]?=a_ (.lst [])) λl l2 h' x _ _ _ g g'=>⟨l,l2,rfl,x,g,g'⟩);let ec:tW jD [c_ n] h=.ok (.tup [.ref h.length,.ref (h.length+1)]) h1:=e0;simp[e0,e2,e3];show JK A0 (by simp) g3 g4 _ λl2 h4 x4 _ g5=>k l2 h4 ((x0.trans x2).trans (x3.trans x4)) g5
theorem SK(hx:x.pl 40=true):∀n,eqF n x x h=a_ true
 |0=>by unfold eqF;rw[Ax hx hx];simp
 |n+1=>by unfold eqF;rw[Ax hx hx];simp
variable{a b:Nat}
theorem AL(g1:h[a]?=a_ (.lst xs))(g2:h[b]?=a_ (.lst xs))(hx:xs.all (PV.pl 39)=true):∀n,eqF n (.ref a) (.ref b) h=a_ true
 |0=>by unfold eqF;rw[Bq g1 g2 hx hx];simp
 |n+1=>by unfold eqF;rw[Bq g1 g2 hx hx];simp
theorem PN{d:Nat}(e1:eqF n (.ref a) (.ref c) h=a_ true)(e2:eqF n (.ref b) (.ref d) h=a_ true):eqF (n+1) (.tup [.ref a,.ref b]) (.tup [.ref c,.ref d]) h=a_ true:=by
 unfold eqF;let n2:mM (.tup [.ref a,.ref b]) (.tup [.ref c,.ref d]) h=b_:=by unfold mM;simp[PV.d,PV.ds,lY]
 rw[n2];simp[eqL,e1,e2]
theorem PP(e:eqF n (.ref a) (.ref b) h=a_ true):eqF (n+1) (.tup [.str "map",.ref a]) (.tup [.str "map",.ref b]) h=a_ true:=by
 unfold eqF;let n2:mM (.tup [.str "map",.ref a]) (.tup [.str "map",.ref b]) h=b_:=by unfold mM;simp[PV.d,PV.ds,lY]
 let e1:eqF n (.str "map") (.str "map") h=a_ true:=SK rfl n;rw[n2];simp[eqL,e,e1]
theorem uA(e:eqF 3 x y h=a_ true):vR x y h=.ok (.bl false) h:=by unfold vR;rw[e];rfl
theorem IB(e:eqF 3 x y h=a_ true):KN x y h=.ok (.bl true) h:=by unfold KN;rw[e];rfl
theorem PQ(ts:x_ Tg):(ZY 0).all (PV.pl 39)=true:=by rw[zk];intro y hy;let⟨t,_,rfl⟩:=zm.mp hy;rfl
theorem PR(ts:x_ Tg):(ts.map oS).all (PV.pl 39)=true:=by rw[zk];intro y hy;let⟨t,_,rfl⟩:=zm.mp hy;rfl
theorem UB(S:Seen):(sv S).pl 38=true:=by
 change(S.map _).all (PV.pl 37)=true
 rw[zk];intro y hy;let⟨t,_,rfl⟩:=zm.mp hy;rfl
theorem UC{ds:x_ Dd}(w:∀d∈ds,Wf d/\d.kd≠.other):(ds.map dP).all (PV.pl 39)=true:=by
 rw[zk];intro y hy;let⟨d,hd,rfl⟩:=zm.mp hy;let hp:(PV.tup d.act).pl 38=true:=by
  let⟨⟨_,wa,_⟩,ne⟩:=w d hd;cases hk:d.kd with
  |other=>exact(ne hk).elim
  |settle=>rw[hk]at wa;let wa:d.act=[.str "settle"]:=wa;rw[wa];rfl
  |back f l'=>rw[hk]at wa;let wa:d.act=[.str "back",.int f,.int l']:=wa;rw[wa];rfl
 show[pv d.nm,sv d.seen,.tup d.act].all (PV.pl 38)=true
 let h1:(pv d.nm).pl 38=true:=rfl;simp[h1,UB,hp]
structure BA(h:PH)(a b:Nat)(ts:x_ Tg):Prop where
 r:h[a]?=some (.lst (ts.map dS))
 l:h[b]?=some (.lst [])
theorem BA.ext(A:BA h a b ts)(x:P2 h'):BA h' a b ts:=⟨x _ _ A.r,x _ _ A.l⟩
theorem BA.eq{d:Nat}(A:BA h a b ts)(B:BA h c d ts):eqF 3 (.tup [.ref a,.ref b]) (.tup [.ref c,.ref d]) h=a_ true:=PN (AL A.r B.r (PQ ts) _) (AL A.l B.l rfl _)
theorem Gy{d:Nat}(A:BA h a b ts)(B:BA h c d ts)(lt:ts.length<=5):∃h',oG [.tup [.ref a,.ref b],.tup [.ref c,.ref d]] h=.ok (.bl true) h'/\P2 h':=by
 let w:(oG [.tup [.ref a,.ref b],.tup [.ref c,.ref d]] h).W λq h'=>q=.bl true/\P2 h':=by
  refine dY ?_;unfold Em;rw[aO,iM];let i1:pO [.tup [.ref a,.ref b],.ty "tuple"] h=.ok (.bl true) h:=(rfl);let i2:qB [.tup [.ref a,.ref b]] h=.ok (.int 2) h:=(rfl);let i3:vNe (.int 2) (.int 2) h=.ok (.bl false) h:=(rfl);simp[-FO,i1,i2,i3];rfl';let i4:pO [.ref a,.ty "list"] h=.ok (.bl true) h:=by rw[Bp A.r];rfl
  let i5:pO [.ref b,.ty "list"] h=.ok (.bl true) h:=by rw[Bp A.l];rfl
  rw[aO,iM];simp[i4,i5];rfl';let i6:=IB (A.eq B);let hc:=kT (m:=F_ (mV 0) (o_ 0)) (js:=[b_]) (tg:=gN 0) (tst:=pE (bW (mCB pO (aB (mV 0) (aB (mC (.ty "tuple")) aE))))) (elt:=mV 0) (δ:=[a_ (.tup [.ref a,.ref b]),a_ (.tup [.ref c,.ref d])]) (h:=h) (h1:=h) (n:=a) (ys:=ts) (emb:=dS) (λt=>b_) (by simp) A.r ⋯
   (λt _=>⟨[a_ (dS t)],by simp[gZ],λh _=>by let i1:pO [dS t,.ty "tuple"] h=.ok (.bl true) h:=(rfl);simp[i1]⟩)
  rw[show ts.filterMap (λ_=>(b_:y_ PV))=[] by simp]at hc;let g1:(h++[MO.lst []])[h.length]?=a_ (.lst []):=aN;let x1:P2 (h++[MO.lst []]):=z_ _;generalize h.length=n1 at hc g1;generalize h++[MO.lst []]=h1 at hc g1 x1;let g2:(h1++[MO.lst []])[h1.length]?=a_ (.lst []):=aN;let x2:Ext h1 (h1++[MO.lst []]):=z_ _;let e2:=OV (x2 _ _ g1) g2 rfl rfl;simp at e2;simp[i6,hc,e2];show Z7 0
 let⟨q,h',e,rfl,x⟩:=kG w;show⟨h',e,x⟩
theorem JL(δ:Ev)(h:PH):∃a b h',bL (aB (dW aE) (aB (dW aE) aE)) δ h=.ok (.tup [.ref a,.ref b]) h'/\P2 h'/\BA h' a b []/\h.length<=a/\h.length<=b/\a≠b:=by refine⟨h.length,(h++[MO.lst []]).length,h++[MO.lst []]++[MO.lst []],rfl,(z_ _).trans (z_ _),⟨z_ _ _ _ aN,aN⟩,?_,?_,?_⟩ <;> simp
theorem EC(δ:Ev)(h:PH):∃a h',bL (aB (mC (.str "map")) (aB (dW aE) aE)) δ h=.ok (.tup [.str "map",.ref a]) h'/\P2 h'/\h'[a]?=a_ (.lst (([]:x_ Tg).map oS)):=⟨h.length,h++[MO.lst []],rfl,z_ _,aN⟩
theorem ED(a:Zf 0)(hl:ts.length<=5)(B:BA h lr lx ts):∃l h',oM [.tup [.ref lr,.ref lx]] h=.ok (.tup [.str "map",.ref l]) h'/\P2 h'/\h.length<=l/\h'[l]?=a_ (.lst (ts.map oS)):=by let⟨v,h',e,l,rfl,x,b,g⟩:=kG (JK a hl B.r B.l (λv h'=>∃l,v=.tup [.str "map",.ref l]/\P2 h'/\h.length<=l/\h'[l]?=a_ (.lst (ts.map oS))) λl h' x b g=>⟨l,rfl,x,b,g⟩);show⟨l,h',e,x,b,g⟩
theorem BW{ds:x_ Dd}(D:Aa ds)(gn:h[n]?=a_ (.lst (ds.map dP))):∃l h',gO [.ref n] h=.ok (.tup [.str "map",.ref l]) h'/\P2 h'/\h'[l]?=a_ (.lst []):=by let⟨v,h',e,l,rfl,x,g⟩:=kG (IA D gn (λv h'=>∃l,v=.tup [.str "map",.ref l]/\P2 h'/\h'[l]?=a_ (.lst [])) λl h' x g=>⟨l,rfl,x,g⟩);show⟨l,h',e,x,g⟩
theorem fold_eq(a:Zf 0)(hl:ts.length<=5){ds:x_ Dd}(D:Aa ds)(B:BA h lr lx ts)(gd:h[ld]?=a_ (.lst (ds.map dP))):∃l l2 h',yJ [.tup [.ref lr,.ref lx],.ref ld] h=.ok (.tup [.ref l,.ref l2]) h'/\P2 h'/\h.length<=l/\h.length<=l2/\l≠l2/\BA h' l l2 ts:=by let⟨v,h',e,l,l2,rfl,x,b1,b2,n,B'⟩:=kG (JI a hl D B.r B.l gd (λv h'=>∃l l2,v=.tup [.ref l,.ref l2]/\P2 h'/\h.length<=l/\h.length<=l2/\l≠l2/\BA h' l l2 ts) λl l2 h' x b1 b2 n g g'=>⟨l,l2,rfl,x,b1,b2,n,g,g'⟩);show⟨l,l2,h',e,x,b1,b2,n,B'⟩
variable{hs:Zw 0}
theorem QN:atI (List.map PV.str (z::hs)) 0=a_ (.str z):=wY (i:=0) (by simp)
theorem DC(e:h[n]?=a_ (.lst xs)):onL tI (.ref n) [] h=.ok .non (ZK (.lst [])):=by simp[onL,dA,e,tI]
variable{ra rb:Nat}
theorem Gz(a:Zf 0)(hl:ts.length<=5){ds:x_ Dd}(D:Aa ds){lh ha hb:Nat}(hh:1<=hs.length)(gh:h[lh]?=a_ (.lst (hs.map PV.str)))(R:BA h ra rb ts)(H:BA h ha hb ts)(gl:h[lr]?=a_ (.lst (ds.map dP))){x5 x8:y_ PV}(k:∀x5 x8 h',P2 h'->E.nx [x0,x1,c_ lh,a_ (.tup [.ref ra,.ref rb]),x4,x5,a_ (.tup [.ref ha,.ref hb]),c_ lr,x8,x9] h'):(Eo [x0,x1,c_ lh,a_ (.tup [.ref ra,.ref rb]),x4,x5,a_ (.tup [.ref ha,.ref hb]),c_ lr,x8,x9] h).W E:=by
 unfold Eo;rw[aO];simp[nM gl];let xA:P2 (h++[MO.lst (ds.map dP)]):=z_ _;let gA:(h++[MO.lst (ds.map dP)])[h.length]?=a_ (.lst (ds.map dP)):=aN;generalize h.length=la at gA;generalize h++[MO.lst (ds.map dP)]=hA at xA gA;rfl';rw[aO];let⟨l,l2,hB,eB,xB,b1,b2,v9,B⟩:=fold_eq a hl D (H.ext xA) gA;simp[eB];let ue:=xA.trans xB;rfl';let⟨hC,eC,xC⟩:=Gy B (R.ext ue) hl;let m9:=ue.trans xC;let n1:=uA ((H.ext m9).eq (R.ext m9));let n2:=uA (AL ((xB.trans xC) _ _ gA) (m9 _ _ gl) (UC D.wf) 3);rw[aO,iM];simp[eC,n1,n2];rfl';rw[aO];let BC:=B.ext xC;let v8:=xA.len;let cl:=DC BC.r;simp[fB BC.r,cl];let xD:P2 (hC.set l (.lst [])):=m9.setN ⋯;let gD:(hC.set l (.lst []))[l2]?=a_ (.lst []):=bC BC.l v9;generalize hC.set l (.lst [])=hD at xD gD;rfl';cases hs with
 |nil=>simp at hh
 |cons z hs=>
  let ix:vIx (.ref lh) (.int 0) hD=.ok (.str z) hD:=by rw[mD (xD _ _ gh),QN];rfl
  let ap:=dM (p:=.str z) gD (by simp);simp[fB gD,ix,ap];show k _ _ _ (xD.setN ⋯)
theorem empty_eq(h:PH):∃a b h',jD [] h=.ok (.tup [.ref a,.ref b]) h'/\P2 h'/\BA h' a b []/\h.length<=a/\h.length<=b/\a≠b:=
 ⟨h.length,h.length+1,h++[.lst []]++[.lst []],Gx h,(z_ _).trans (z_ _),⟨z_ _ _ _ aN,by
  have:h.length+1=(h++[MO.lst []]).length:=by simp
  rw[this];show aN⟩,by simp,by simp,by simp⟩
theorem map_eq(g1:h[a]?=a_ (.lst (ts.map oS)))(g2:h[b]?=a_ (.lst (ts.map oS))):eqF 3 (.tup [.str "map",.ref a]) (.tup [.str "map",.ref b]) h=a_ true:=PP (AL g1 g2 (PR ts) _)
theorem PU(δ:Ev)(h:PH):∃a h',dW aE δ h=.ok (.ref a) h'/\P2 h'/\h'[a]?=a_ (.lst []):=⟨h.length,h++[.lst []],rfl,z_ _,aN⟩
theorem Aa.nil:Aa []:=⟨(λ_ h=>nomatch h),List.nodup_nil,by simp⟩
theorem A0:AtT "" []:=λi t e=>nomatch e
theorem UD(δ:Ev)(A:BA h a b [])(e5:A6 δ 5=a_ (.tup [.ref a,.ref b])):∃h',(tG (pE (bW (dF 2 oG (aB (mV 5) (aB (bL (aB (dW aE) (aB (dW aE) aE))) aE))))) (bW (aG vR (dF 1 oM (aB (mV 5) aE)) (bL (aB (mC (.str "map")) (aB (dW aE) aE)))))) δ h=.ok false h'/\P2 h':=by let⟨c,d,h1,e1,x1,B,_⟩:=JL δ h;let⟨h2,e2,x2⟩:=Gy (A.ext x1) B (by simp);let A2:=A.ext (Z7 0);let⟨l,h3,e3,x3,_,g3⟩:=ED A0 (by simp) A2;let⟨m,h4,e4,x4,g4⟩:=EC δ h3;let n:=uA (map_eq (x4 _ _ g3) g4);refine⟨h4,?_,((Z7 0).trans x3).trans x4⟩;simp[-Jm,e5,e1,e2,e3,e4,n]
theorem UE(δ:Ev){ds:x_ Dd}(D:Aa ds)(gd:h[ld]?=a_ (.lst (ds.map dP)))(yo:A6 δ 4=c_ ld):∃h',(tG (bW (aG vR (tW jD) (bL (aB (dW aE) (aB (dW aE) aE))))) (tG (bW (aG vR (dF 1 gO (aB (dW aE) aE)) (bL (aB (mC (.str "map")) (aB (dW aE) aE))))) (bW (aG vR (dF 1 gO (aB (mV 4) aE)) (bL (aB (mC (.str "map")) (aB (dW aE) aE))))))) δ h=.ok false h'/\P2 h':=by let⟨a,b,h1,e1,x1,A,_⟩:=empty_eq h;let⟨c,d,h2,e2,x2,B,_⟩:=JL δ h1;let n1:=uA ((A.ext x2).eq B);let⟨n,h3,e3,x3,g3⟩:=PU δ h2;let⟨l,h4,e4,x4,g4⟩:=BW Aa.nil g3;let⟨m,h5,e5,x5,g5⟩:=EC δ h4;let n2:=uA (map_eq (ts:=[]) (x5 _ _ g4) g5);let xx:=(Z7 0).trans ((x3.trans x4).trans x5);let⟨l',h6,e6,x6,g6⟩:=BW D (xx _ _ gd);let⟨m',h7,e7,x7,g7⟩:=EC δ h6;let n3:=uA (map_eq (ts:=[]) (x7 _ _ g6) g7);refine⟨h7,?_,xx.trans (x6.trans x7)⟩;simp[-Jm,-OP,e1,e2,e3,e4,e5,e6,e7,yo,n1,n2,n3]
theorem JM{α β:Type}(g:α->β):∀xs:x_ α,(z0 xs.length).filterMap (λi=>(xs[i]?).map g)=xs.map g
 |[]=>rfl
 |x::xs=>by rw[Wi,Yf,X6,List.filterMap_map];have:=JM g xs;simp[YW,this]
theorem PY(a:Zf 0)(hl:ts.length<=5)(R:BA h ra rb ts)(e3:A6 δ 3=a_ (.tup [.ref ra,.ref rb])):dQ [b_,a_ 3] (qC (aB (mCB qB (aB (F_ (mV 3) (o_ 0)) aE)) aE)) (gN 0) kQ (bL (aB (F_ (mC (.str "abcde")) (mV 0)) (aB (F_ (F_ (F_ (mV 1) (o_ 0)) (mV 0)) (o_ 0)) (aB (bL (aB (mC (.str "count")) (aB (F_ (F_ (F_ (mV 1) (o_ 0)) (mV 0)) (o_ 4)) aE))) aE)))) δ h=.ok (.ref h.length) (h++[.lst (ts.map oS)]):=by
 let el:qB [.ref ra] h=.ok (.int ts.length) h:=by have:=FN (h:=h) R.r;simpa using this
 let hc:=Br (js:=[b_,a_ 3]) (tg:=gN 0) (tst:=kQ) (elt:=bL (aB (F_ (mC (.str "abcde")) (mV 0)) (aB (F_ (F_ (F_ (mV 1) (o_ 0)) (mV 0)) (o_ 0)) (aB (bL (aB (mC (.str "count")) (aB (F_ (F_ (F_ (mV 1) (o_ 0)) (mV 0)) (o_ 4)) aE))) aE)))) (ms:=aB (mCB qB (aB (F_ (mV 3) (o_ 0)) aE)) aE) (δ:=δ) (h:=h) (h1:=h) (j:=ts.length) (λi=>(ts[i]?).map oS) (by simp[e3,el]) ⋯
  (λi hi=>⟨[d_ i,a_ (.tup [.ref ra,.ref rb])],by simp[gZ,e3],λh2 x2=>by
   let ak:i<ts.length:=⋯;let ht:=a i ts[i] (z9 ak);let ix:vIx (.ref ra) (.int i) h2=.ok (dS ts[i]) h2:=by
    rw[mD (x2 _ _ R.r),show atI (ZY 0) (i:Int)=a_ (dS ts[i]) from wY (by simp[ak])]
    rfl
   let i0:vIx (dS ts[i]) (.int 0) h2=.ok (pv ts[i].nm) h2:=by unfold dS;simp
   let i4:vIx (dS ts[i]) (.int 4) h2=.ok (.int ts[i].v) h2:=by unfold dS;simp
   rw[z9 ak];refine⟨rfl,?_⟩;simp[Nv (show i<5 by omega),ix,i0,i4,oS,tell,ht.2]⟩)
 rw[hc,Xw,JM]
theorem PZ{α β:Type}(f:α->β)(xs:x_ α)(lo hi:Zz 0):jN (xs.map f) lo hi=(jN xs lo hi).map f:=by unfold jN;simp[List.map_take,List.map_drop]
theorem main(ns:x_ Int)(hl:ns.length<=63):∃h,Nb [.fl (Zb 0)] []=.ok (.bl true) h:=by
 let w:(Nb [.fl (Zb 0)] []).W λp _=>p=.bl true:=by
  refine dY ?_;unfold Na;rw[aO];let c0:=Er ns 0;simp only[Int.cast_ofNat_Int]at c0;simp(disch:=omega) [c0];generalize cell ns 0=c at c0;obtain⟨m,em⟩:∃m:Nat,2+c/24%3=(m:Int):=⟨(2+c/24%3).toNat,⋯⟩;let hm:2<=m/\m<=4:=⋯;rfl';rw[aO];simp(disch:=omega) [em];refine Nt c m ⋯ _ _ λhs lh hA gh lhs=>?_
  try simp
  obtain⟨z,hs,rfl⟩:∃z zs,hs=z::zs:=by
   cases hs with
   |nil=>simp at lhs;omega
   |cons z zs=>exact⟨z,zs,rfl⟩
  let ix:∀{h},Ext hA h->vIx (.ref lh) (.int 0) h=.ok (.str z) h:=λx=>by rw[mD (x _ _ gh),QN];rfl
  rfl';rw[aO];simp[ix (Ext.refl _)];refine Pu ns z hA _ λts ra rb hB lt a xB g1 g2 _=>?_;let R:BA hB ra rb ts:=⟨g1,g2⟩
  try simp
  rfl';rw[aO];simp[PZ];let gc:(hB++[MO.lst ((jN ns (a_ 1) (a_ 31)).map PV.int)])[hB.length]?=a_ (.lst ((jN ns (a_ 1) (a_ 31)).map PV.int)):=aN;let xC:Ext hB (hB++[MO.lst ((jN ns (a_ 1) (a_ 31)).map PV.int)]):=z_ _;let j3:(jN ns (a_ 1) (a_ 31)).length<=30:=by simp[jN,HT.sIx];omega
  generalize hB.length=lc at gc;generalize hB++[MO.lst ((jN ns (a_ 1) (a_ 31)).map PV.int)]=hC at gc xC;generalize jN ns (a_ 1) (a_ 31)=cs at gc j3;let sl:=E6 (lo:=a_ 1) (hi:=b_) ((xB.trans xC) _ _ gh);rw[Sz]at sl;simp[ix (xB.trans xC),sl];let gD:(hC++[MO.lst (hs.map PV.str)])[hC.length]?=a_ (.lst (hs.map PV.str)):=aN;let xD:Ext hC (hC++[MO.lst (hs.map PV.str)]):=z_ _;generalize hC.length=lk at gD;generalize hC++[MO.lst (hs.map PV.str)]=hD at gD xD;simp at lhs;refine Nu cs j3 z hs ⋯ ⋯ lc lk hD (xD _ _ gc) gD _ λds D ld hE xE ge ri lr=>?_;let DO:Aa ds:=⟨ri.wf,ri.nd,⋯⟩;let RE:=R.ext ((xC.trans xD).trans xE);let GE:=((xB.trans (xC.trans xD)).trans xE) _ _ gh;clear gc xC sl gD xD xE gh g1 g2 R ix xB
  try simp
  rfl';rw[aO];let⟨fa,fb,hF,eF,xF,A,b1,b2,xa⟩:=empty_eq hE;simp[eF];rfl';rw[aO,iM];let⟨hG,eG,xG⟩:=UD [a_ (.fl (Zb 0)),d_ c,c_ lh,a_ (.tup [.ref ra,.ref rb]),c_ ld,a_ (.tup [.ref fa,.ref fb]),b_,b_,b_,b_] A rfl;rw[eG];simp;let AG:=A.ext xG;rfl';rw[aO];let ap:=dM (p:=.tup []) AG.r (by simp);simp[fB AG.r,ap];let xH:Ext hE (hG.set fa (.lst [.tup []])):=(xF.trans xG).setN b1;let gH:(hG.set fa (.lst [.tup []]))[fb]?=a_ (.lst []):=bC AG.l xa;generalize hG.set fa (.lst [.tup []])=hH at xH gH;rfl';rw[aO];let ap:=dM (p:=.tup []) gH (by simp);simp[fB gH,ap];let xI:Ext hE (hH.set fb (.lst [.tup []])):=xH.setN b2;generalize hH.set fb (.lst [.tup []])=hI at xI;clear xH gH ap xF xG eF A AG eG;rfl';rw[aO,iM];let⟨hJ,eJ,xJ⟩:=UE [a_ (.fl (Zb 0)),d_ c,c_ lh,a_ (.tup [.ref ra,.ref rb]),c_ ld,a_ (.tup [.ref fa,.ref fb]),b_,b_,b_,b_] DO (xI _ _ ge) rfl;rw[eJ];simp;let xJ:=xI.trans xJ;let RJ:=RE.ext xJ;let GJ:=xJ _ _ GE;let dJ:=xJ _ _ ge;clear xI eJ xJ RE GE ge;rfl';rw[aO];let v1:=nM RJ.r;let x1:Ext hJ (hJ++[MO.lst (ZY 0)]):=z_ _;let k1:(hJ++[MO.lst (ZY 0)])[hJ.length]?=a_ (.lst (ZY 0)):=aN;generalize hJ.length=ha at v1 k1;generalize hJ++[MO.lst (ZY 0)]=hK at v1 k1 x1;let v2:=nM (x1 _ _ RJ.l);let x2:Ext hK (hK++[MO.lst []]):=z_ _;let k2:(hK++[MO.lst []])[hK.length]?=a_ (.lst []):=aN;generalize hK.length=hb at v2 k2;generalize hK++[MO.lst []]=hL at v2 k2 x2;simp[v1,v2];let n5:=Z7 0;let H:BA hL ha hb ts:=⟨x2 _ _ k1,k2⟩;let RL:=RJ.ext n5;let GL:=n5 _ _ GJ;let dL:=n5 _ _ dJ;clear v1 v2 k1 k2 x1 x2 n5 RJ GJ dJ;rfl';rw[aO];let e0:dW (aB (mV 4) (aB (dW aE) aE)) [a_ (.fl (Zb 0)),d_ c,c_ lh,a_ (.tup [.ref ra,.ref rb]),c_ ld,a_ (.tup [.ref fa,.ref fb]),a_ (.tup [.ref ha,.ref hb]),b_,b_,b_] hL=.ok (.ref (hL++[MO.lst []]).length) (hL++[MO.lst []]++[MO.lst [.ref ld,.ref hL.length]]):=rfl;let y1:Ext hL (hL++[MO.lst []]++[MO.lst [.ref ld,.ref hL.length]]):=(z_ _).trans (z_ _);let y2:(hL++[MO.lst []]++[MO.lst [.ref ld,.ref hL.length]])[(hL++[MO.lst []]).length]?=a_ (.lst [.ref ld,.ref hL.length]):=aN;let y3:(hL++[MO.lst []]++[MO.lst [.ref ld,.ref hL.length]])[hL.length]?=a_ (.lst (([]:x_ Dd).map dP)):=z_ _ _ _ aN;generalize (hL++[MO.lst []]).length=lo at e0 y2;generalize hL++[MO.lst []]++[MO.lst [.ref ld,.ref hL.length]]=hM at e0 y1 y2 y3;generalize hL.length=le at y2 y3;refine qF (n:=lo) (xs:=[.ref ld,.ref le]) (h1:=hM) (λq δ h'=>Ext hM h'/\∃x5 x7 x8,δ=[a_ (.fl (Zb 0)),d_ c,c_ lh,a_ (.tup [.ref ra,.ref rb]),c_ ld,x5,a_ (.tup [.ref ha,.ref hb]),x7,x8,b_]) e0 y2 ⟨Ext.refl _,_,_,_,rfl⟩ (λq δ h' _ i=>i.1 _ _ y2) ?_ ?_
  ·rintro q y δ h' hy ⟨x,x5,x7,x8,rfl⟩;let xx:=y1.trans x
   match q,hy with
   |0,hy=>
    cases hy
    show⟨_,rfl,Gz a lt DO (by simp) (xx _ _ GL) (RL.ext xx) (H.ext xx) (xx _ _ dL) λ_ _ h2 x2=>⟨x.trans x2,_,_,_,rfl⟩⟩
   |1,hy=>
    cases hy
    show⟨_,rfl,Gz a lt Aa.nil (by simp) (xx _ _ GL) (RL.ext xx) (H.ext xx) (x _ _ y3) λ_ _ h2 x2=>⟨x.trans x2,_,_,_,rfl⟩⟩
   |q+2,hy=>simp at hy
  ·rintro δ h' ⟨x,x5,x7,x8,rfl⟩;let xx:=y1.trans x;let RN:=RL.ext xx;let HN:=H.ext xx;clear xx x y1 y2 y3 e0 RL H GL dL;rfl';rw[aO,QC,PY a lt RN rfl,CA];let gW:(h'++[MO.lst (ts.map oS)])[h'.length]?=a_ (.lst (ts.map oS)):=aN;let xW:Ext h' (h'++[MO.lst (ts.map oS)]):=z_ _;generalize h'.length=lw at gW;generalize h'++[MO.lst (ts.map oS)]=hO at gW xW;let RO:=RN.ext xW;let HO:=HN.ext xW;clear RN HN xW;rfl';rw[aO];let⟨lt',hP,eP,xP,bP,gP⟩:=ED a lt HO;simp[eP];rfl';rw[aO,iM];let n1:=uA (map_eq gP (xP _ _ gW));let i1:pO [.tup [.str "map",.ref lt'],.ty "tuple"] hP=.ok (.bl true) hP:=(rfl);let i2:pO [.ref lt',.ty "list"] hP=.ok (.bl true) hP:=by rw[Bp gP];rfl
   simp[-FO,i1,n1,i2];rfl';rw[aO];let cl:=DC gP;simp[fB gP,cl];let xQ:Ext hO (hP.set lt' (.lst [])):=xP.setN bP;generalize hP.set lt' (.lst [])=hQ at xQ;rfl';let q1:=IB ((HO.ext xQ).eq (RO.ext xQ));let⟨lu,hR,eR,xR,bR,gR⟩:=ED a lt (HO.ext xQ);let q2:=IB (map_eq gR ((xQ.trans xR) _ _ gW));simp[q1,eR,q2]
 let⟨p,h,e,rfl⟩:=kG w;show⟨h,e⟩
def top(i:Nat):w_:=PySem.Challenge.pw_copymeet_k61_upon_nothing.main.body.getD i (.Pass ⟨0,0,0,0⟩)
abbrev bsL:Zw 0:=["len","range","sorted","tuple","isinstance","list","reversed","sum"]
abbrev cC(w:u_)(K:y0)(cl:Str->y_ r_):MC:=⟨K,cl,bsL,λ_ _ _=>False,w⟩
abbrev clF(bY cI aV:r_):Str->y_ r_:=λz=>if z=("Count" : Str) then a_ bY else if z=("Tree" : Str) then a_ cI else if z=("Folding" : Str) then a_ aV else b_
def FnX(K:y0)(f:r_)(nm qual:Str)(st:w_):Prop:=∃oc kV doc pm cdv ct od an osl,K.lookup f=a_ ⟨oc,od,.func (Xc nm qual (hV st) (fM st) (aJ st) .none kV doc pm an cdv ct),osl⟩/\Yz K cdv qual=true/\WO K (.ref f)=true
def MtX(K:y0)(A:r_)(nm qual:Str)(st:w_):Prop:=∃f,zy K (.ref A) nm=a_ (c_ f)/\PySem.W.isFn K (.ref f)=true/\FnX K f nm qual st
def DfX(K:y0)(nm:Str)(st:w_):Prop:=∃f,YM K WD nm=a_ (c_ f)/\FnX K f nm nm st
def BdX(nm qual:Str)(st:w_)(ps:Zw 0):Prop:=∀(kV doc pm:qe)(an:y_ r_)(cdv ct:qe)(us:ZE 0),us.length=ps.length->bindArgs (Xc nm qual (hV st) (fM st) (aJ st) .none kV doc pm an cdv ct) ⟨us,[]⟩=pure (ps.zip us)
abbrev tMt(P:ve)(w:u_)(K:y0)(mg:m_ 0)(base:t_)(cl:Str->y_ r_)(j:Nat)(A:r_)(nm:Str)(ps:Zw 0)(n:Nat)(m:Fn):Prop:=∃g fd,DK K A nm g/\j_ j g fd ps (spM (s_ 0) n m)/\Binds K fd ps []
abbrev tMk(P:ve)(w:u_)(K:y0)(mg:m_ 0)(base:t_)(cl:Str->y_ r_)(j:Nat)(A:r_)(nm:Str)(ps:Zw 0)(n:Nat)(m:Fn):Prop:=∃g fd,DK K A nm g/\j_ j g fd ps (spM (s_ 0) n m)/\Binds K fd ps []/\Mk K A g
abbrev rZ:w_:=top 48
theorem IC:aR ["_law_script","_law_k"] ["_law_script","_law_k"] (aJ rZ):=i_ 0
abbrev vZ:w_:=top 49
theorem nN:aR ["_law_cell","_law_many","_law_found","_law_number","_law_k"] ["_law_cell","_law_many"] (aJ vZ):=i_ 0
abbrev AM:w_:=top 50
theorem nO:aR ["_law_cell","_law_many","_law_letters","_law_xs","_law_stem","_law_at"] ["_law_cell","_law_many"] (aJ AM):=i_ 0
abbrev BX:Zw 0:=["_law_x","_law_letters"]
theorem GA:(BX).Nodup:=by decide +kernel
abbrev BY:Zw 0:=["_law_k","_law_stem","_law_xs"]
theorem GB:(BY).Nodup:=by decide +kernel
abbrev BZ:Zw 0:=["_law_k","_law_stem","_law_letters","_law_at","_law_xs"]
theorem GC:(BZ).Nodup:=by decide +kernel
abbrev EE:w_:=top 51
theorem AN:aR ["_law_script","_law_hand","_law_rows","_law_k","_law_number"] ["_law_script","_law_hand"] (aJ EE):=i_ 0
abbrev AO:w_:=top 52
theorem iE:aR ["_law_cells","_law_first","_law_hands_here","_law_rows","_law_many","_law_cell","_law_hand","_law_number","_law_seen","_law_act"] ["_law_cells","_law_first","_law_hands_here"] (aJ AO):=i_ 0
abbrev AQ:w_:=top 43
theorem NC:aR [] [] (aJ AQ):=i_ 0
abbrev AR:w_:=top 53
theorem ND:aR ["_law_found","_law_base_here"] ["_law_found","_law_base_here"] (aJ AR):=i_ 0
abbrev C0:Zw 0:=["_law_row"]
theorem GD:(C0).Nodup:=by decide +kernel
abbrev oT:w_:=inClass (top 15) 2
theorem CC:aR ["self"] ["self"] (aJ oT):=i_ 0
abbrev lF:w_:=inClass (top 38) 6
theorem Ab:aR ["self","thing"] ["self","thing"] (aJ lF):=i_ 0
abbrev mU:w_:=inClass (top 38) 9
theorem qS:aR ["self","thing","spots"] ["self","thing"] (aJ mU):=i_ 0
abbrev nP:Zw 0:=["inner","row","thing"]
theorem mH:(nP).Nodup:=by decide +kernel
abbrev nQ:Zw 0:=["spot","inner"]
theorem mI:(nQ).Nodup:=by decide +kernel
abbrev iF:w_:=inClass (top 42) 8
theorem eQ:aR ["self","found","left","thing"] ["self"] (aJ iF):=i_ 0
abbrev qT:w_:=inClass (top 38) 7
theorem EF:aR ["self","thing"] ["self","thing"] (aJ qT):=i_ 0
abbrev iG:w_:=inClass (top 42) 9
theorem lG:aR ["self","thing","tellings","kind"] ["self","thing","tellings"] (aJ iG):=i_ 0
abbrev jJ:Zw 0:=["inner","tellings","self"]
theorem pQ:(jJ).Nodup:=by decide +kernel
abbrev lH:w_:=inClass (top 42) 7
theorem jS:aR ["self","tellings","thing"] ["self"] (aJ lH):=i_ 0
abbrev jT:w_:=inClass (top 38) 0
theorem yM:aR ["self"] ["self"] (aJ jT):=i_ 0
abbrev oU:w_:=inClass (top 15) 4
theorem CD:aR ["self","content"] ["self","content"] (aJ oU):=i_ 0
abbrev qU:w_:=inClass (top 38) 12
theorem iH:aR ["self","rows","lost","thing","kind","holder","spot"] ["self","rows","lost"] (aJ qU):=i_ 0
abbrev iT:w_:=inClass (top 15) 0
theorem wA:aR ["self"] ["self"] (aJ iT):=i_ 0
abbrev sA:w_:=top 35
theorem ID:aR ["kind"] ["kind"] (aJ sA):=i_ 0
abbrev fX:w_:=inClass (top 42) 1
theorem kF:aR ["self","thing","kind","leaf"] ["self","thing","kind"] (aJ fX):=i_ 0
abbrev fY:w_:=inClass (top 42) 0
theorem bF:aR ["self","base","rows","lost","thing","kind","holder","spot","content"] ["self","base"] (aJ fY):=i_ 0
abbrev iN:Zw 0:=["row"]
theorem oV:(iN).Nodup:=by decide +kernel
abbrev EG:w_:=top 45
theorem Q1:aR ["base"] ["base"] (aJ EG):=i_ 0
abbrev AS:w_:=top 4
theorem NF:aR ["deed"] ["deed"] (aJ AS):=i_ 0
abbrev C1:Zw 0:=["pair"]
theorem GF:(C1).Nodup:=by decide +kernel
abbrev EH:w_:=top 5
theorem EI:aR ["deed","hand","n"] ["deed"] (aJ EH):=i_ 0
abbrev oW:w_:=top 6
theorem qV:aR ["deeds","by_name","deed"] ["deeds"] (aJ oW):=i_ 0
abbrev lI:w_:=inClass (top 42) 2
theorem pJ:aR ["self","deed","act"] ["self","deed"] (aJ lI):=i_ 0
abbrev jU:w_:=inClass (top 15) 3
theorem yN:aR ["self"] ["self"] (aJ jU):=i_ 0
abbrev fK:w_:=inClass (top 42) 5
theorem pR:aR ["self","thing"] ["self","thing"] (aJ fK):=i_ 0
abbrev mJ:w_:=top 40
theorem EJ:aR ["row"] ["row"] (aJ mJ):=i_ 0
abbrev qW:w_:=inClass (top 38) 11
theorem EK:aR ["self"] ["self"] (aJ qW):=i_ 0
abbrev qX:Zw 0:=["thing","row"]
theorem pK:(qX).Nodup:=by decide +kernel
abbrev qY:w_:=inClass (top 38) 10
theorem EL:aR ["self"] ["self"] (aJ qY):=i_ 0
abbrev lJ:w_:=inClass (top 42) 4
theorem Ac:aR ["self"] ["self"] (aJ lJ):=i_ 0
abbrev mK:Zw 0:=["row","self"]
theorem uB:(mK).Nodup:=by decide +kernel
abbrev EM:w_:=top 44
theorem EN:aR ["base","deeds","folding","deed"] ["base","deeds"] (aJ EM):=i_ 0
abbrev sC:w_:=top 8
theorem IE:aR ["deed"] ["deed"] (aJ sC):=i_ 0
abbrev oX:w_:=top 9
theorem jK:aR ["n","backs","back","word","first","last"] ["n","backs"] (aJ oX):=i_ 0
abbrev wB:w_:=top 10
theorem gQ:aR ["deeds","taken","backs","deed","hand","n","word","by"] ["deeds"] (aJ wB):=i_ 0
abbrev oY:w_:=top 11
theorem qZ:aR ["deeds","ordered","taken"] ["deeds"] (aJ oY):=i_ 0
abbrev sS:Zw 0:=["deed","taken"]
theorem C2:(sS).Nodup:=by decide +kernel
abbrev sD:w_:=top 46
theorem IF:aR ["deeds"] ["deeds"] (aJ sD):=i_ 0
abbrev wC:w_:=top 54
theorem jV:aR ["_law_script","_law_first","_law_hands_here","_law_base_here","_law_deeds_here","_law_found","_law_handed","_law_rows","_law_asked","_law_what"] ["_law_script"] (aJ wC):=i_ 0
abbrev GG:Zw 0:=["_law_k","_law_base_here"]
theorem L3:(GG).Nodup:=by decide +kernel
theorem C3:("len" : Str)∈bsL:=(.head _)
theorem rA:("range" : Str)∈bsL:=(.tail _ (.head _))
theorem nR:("sorted" : Str)∈bsL:=(.tail _ (.tail _ (.head _)))
theorem wD:("tuple" : Str)∈bsL:=(.tail _ (.tail _ (.tail _ (.head _))))
theorem eU:("isinstance" : Str)∈bsL:=(.tail _ (.tail _ (.tail _ (.tail _ (.head _)))))
theorem mL:("list" : Str)∈bsL:=(.tail _ (.tail _ (.tail _ (.tail _ (.tail _ (.head _))))))
section
variable{P:ve}{w:u_}{K:y0}{mg:m_ 0}{base:t_}{cl:Str->y_ r_}
variable(P w K mg base cl)
abbrev uC:Prop:=∃a fd,Zt "_law_cell_at" rZ a fd ["_law_script","_law_k"]/\j_ 1 a fd ["_law_script","_law_k"] (spM (s_ 0) 2 gJ)
abbrev DD:Prop:=∃a fd,Zt "_law_stream" vZ a fd ["_law_cell","_law_many"]/\j_ 1 a fd ["_law_cell","_law_many"] (spM (s_ 0) 2 vS)
abbrev GH:Prop:=∃a fd,Zt "_law_hands" AM a fd ["_law_cell","_law_many"]/\j_ 2 a fd ["_law_cell","_law_many"] (spM (s_ 0) 2 AB)
abbrev JN:Prop:=∃a fd,Zt "_law_base" EE a fd ["_law_script","_law_hand"]/\j_ 2 a fd ["_law_script","_law_hand"] (spM (s_ 0) 2 Ej)
abbrev GI:Prop:=∃a fd,Zt "_law_deeds" AO a fd ["_law_cells","_law_first","_law_hands_here"]/\j_ 1 a fd ["_law_cells","_law_first","_law_hands_here"] (spM (s_ 0) 3 AC)
abbrev C4:Prop:=∃a fd,Zt "empty" AQ a fd []/\j_ 1 a fd [] (spM (s_ 0) 0 jD)
abbrev GK:Prop:=∃a fd,Zt "_law_alike" AR a fd ["_law_found","_law_base_here"]/\j_ 1 a fd ["_law_found","_law_base_here"] (spM (s_ 0) 2 oG)
abbrev C5:Prop:=∃a fd,Zt "leaf_of" sA a fd ["kind"]/\j_ 3 a fd ["kind"] (spM (s_ 0) 1 rW)
abbrev EO:Prop:=∃a fd,Zt "told" EG a fd ["base"]/\j_ 7 a fd ["base"] (spM (s_ 0) 1 oM)
abbrev GM:Prop:=∃a fd,Zt "stamp" AS a fd ["deed"]/\j_ 1 a fd ["deed"] (spM (s_ 0) 1 AH)
abbrev JO:Prop:=∃a fd,Zt "rank" EH a fd ["deed"]/\j_ 2 a fd ["deed"] (spM (s_ 0) 1 En)
abbrev rB:Prop:=∃a fd,Zt "in_order" oW a fd ["deeds"]/\j_ 5 a fd ["deeds"] (spM (s_ 0) 1 iR)
abbrev wF:Prop:=∃a fd,Zt "row_thing" mJ a fd ["row"]/\j_ 1 a fd ["row"] (spM (s_ 0) 1 qN)
abbrev ER:Prop:=∃a fd,Zt "fold" EM a fd ["base","deeds"]/\j_ 7 a fd ["base","deeds"] (spM (s_ 0) 2 yJ)
abbrev C6:Prop:=∃a fd,Zt "name_of" sC a fd ["deed"]/\j_ 1 a fd ["deed"] (spM (s_ 0) 1 nJ)
abbrev zY:Prop:=∃a fd,Zt "taker_of" oX a fd ["n","backs"]/\j_ 1 a fd ["n","backs"] (spM (s_ 0) 2 oP)
abbrev DE:Prop:=∃a fd,Zt "takers" wB a fd ["deeds"]/\j_ 4 a fd ["deeds"] (spM (s_ 0) 1 vX)
abbrev zZ:Prop:=∃a fd,Zt "in_force" oY a fd ["deeds"]/\j_ 6 a fd ["deeds"] (spM (s_ 0) 1 lC)
abbrev C7:Prop:=∃a fd,Zt "reading" sD a fd ["deeds"]/\j_ 8 a fd ["deeds"] (spM (s_ 0) 1 gO)
variable{P w K mg base cl}
theorem sI{j:Nat}{A:r_}{nm qual:Str}{st:w_}{ps:Zw 0}{sp:Sp}(x:MtX K A nm qual st)(b:BdX nm qual st ps)(h:∀{f:r_}{fd:z6},Zn nm qual st f fd->j_ j f fd ps sp):∃g fd,DK K A nm g/\j_ j g fd ps sp/\Binds K fd ps []:=by let⟨f,a,i,_,_,_,_,_,_,_,_,_,l,c,k⟩:=x;let F:=B0 (st:=st) l c k;show⟨f,_,⟨a,i,k⟩,h F,F.binds (ps:=ps) b⟩
theorem SL{j:Nat}{A:r_}{qual:Str}{st:w_}{ps:Zw 0}{sp:Sp}(x:MtX K A "__init__" qual st)(mk:Yi K A=true)(kc:WO K (.ref A)=true)(b:BdX "__init__" qual st ps)(h:∀{f:r_}{fd:z6},Zn "__init__" qual st f fd->j_ j f fd ps sp):∃g fd,DK K A "__init__" g/\j_ j g fd ps sp/\Binds K fd ps []/\Mk K A g:=by let⟨f,a,i,_,_,_,_,_,_,_,_,_,l,c,k⟩:=x;let F:=B0 (st:=st) l c k;show⟨f,_,⟨a,i,k⟩,h F,F.binds (ps:=ps) b,mk,a,i,kc⟩
theorem oZ{j:Nat}{nm:Str}{st:w_}{ps:Zw 0}{sp:Sp}{hh:t_}(X:K.In hh)(G:hh.Ns WD mg)(x:DfX K nm st)(b:BdX nm nm st ps)(h:∀{f:r_}{fd:z6},Zn nm nm st f fd->j_ j f fd ps sp):∃a fd,Zt nm st a fd ps/\j_ j a fd ps sp:=by let⟨f,a,_,_,_,_,_,_,_,_,_,l,c,k⟩:=x;let D:=Def.mk' X G a l c k b;show⟨f,_,D,h D.fn⟩
theorem IG{f:r_}{fd:z6}(hbn:∀x∈bsL,mg x=b_)(F:Zn "_law_cell_at" "_law_cell_at" rZ f fd):Zp ["_law_script","_law_k"] (spM (s_ 0) 2 gJ):=
 bO (C:=s_ 0) (k:=0) (N:=["_law_script","_law_k"]) (body:=yH) (λ_ _ _ h=>h) hbn F IC λcdv A outer s H E=>
 (aF (jO (dB Sb (aA 1) (eZ FM PyProof.Rows.Boot.«len» (aC (aA 0) aH) (hb:=C3)))
  (aM (bH (bQ (aA 0) (aA 1))))
  cQ)
 (aM (bH aL)))
theorem L4{f:r_}{fd:z6}(hbn:∀x∈bsL,mg x=b_)(F:Zn "_law_stream" "_law_stream" vZ f fd):Zp ["_law_cell","_law_many"] (spM (s_ 0) 2 vS):=
 bO (C:=s_ 0) (k:=0) (N:=["_law_cell","_law_many","_law_found","_law_number","_law_k"]) (body:=BO) (λ_ _ _ h=>h) hbn F nN λcdv A outer s H E=>
 (aF (bJ (i:=2) nN.nd (eY aH))
 (aF (bJ (i:=3) nN.nd (bB dH (bB jZ (aA 0) aL) aL))
 (aF (qD (Bn (aC (bB dH (aA 1) aL) aH) (hb:=rA)) (aY nN.nd)
  (aF (bJ (i:=3) nN.nd (bB jZ (bB dH (bB dH (bB Jf (aA 3) (aA 3)) (bB Jf aL (aA 3))) (aA 4)) aL))
  (aM (kA (Z6 (aA 2) (aC (aA 3) aH))))))
 (aM (bH (Cy (aA 2) (kO aL) oA))))))
theorem NG{f:r_}{fd:z6}(hbn:∀x∈bsL,mg x=b_)(F:Zn "_law_hands" "_law_hands" AM f fd)(C8:DD P w K mg base cl):j_ 2 f fd ["_law_cell","_law_many"] (spM (s_ 0) 2 AB):=
 let ⟨_,_,NH,NI⟩:=C8;bO (C:=s_ 0) (k:=1) (N:=["_law_cell","_law_many","_law_letters","_law_xs","_law_stem","_law_at"]) (body:=Ei) (λ_ _ _ h=>h) hbn F nO λcdv A outer s H E=>
 (aF (bJ (i:=2) nO.nd dO)
 (aF (bJ (i:=3) nO.nd (s_call NH NI (aC (aA 0) (aC aL aH))))
 (aF (bJ (i:=4) nO.nd (OZ PySem.F.plainAttrs_str PySem.F.slot_str_join PySem.F.type_str_join So dO (aC (kR (js:=[b_,a_ 2]) (N:=BX) rfl rfl (by rfl) (kB (Cy (aA 3) oA (kO aL))) (λ_ _ _ _=>(aY GA)) (λ_ _ _ _=>mO) (λ_ _ _ _=>(bQ (aA 1) (bB jZ (aA 0) aL)))) aH)))
 (aF (jO (dB xV (bB jZ (aA 0) aL) aL)
  (aM (bH (kR (js:=[b_,a_ 4,a_ 3]) (N:=BY) rfl rfl (by rfl) (Bn (aC (aA 1) aH) (hb:=rA)) (λ_ _ _ _=>(aY GB)) (λ_ _ _ _=>mO) (λ_ _ _ _=>(Cy (aA 1) oA (kO (bB dH aL (bB jZ (bB dH (aA 0) (bQ (aA 2) aL)) aL))))))))
  cQ)
 (aF (bJ (i:=4) nO.nd (Cy (aA 4) oA (kO (bB dH aL (bB jZ (bQ (aA 3) aL) aL)))))
 (aF (bJ (i:=5) nO.nd (bB jZ (bQ (aA 3) aL) (eZ FM PyProof.Rows.Boot.«len» (aC (aA 4) aH) (hb:=C3))))
 (aM (bH (kR (js:=[b_,a_ 4,a_ 2,a_ 5,a_ 3]) (N:=BZ) rfl rfl (by rfl) (Bn (aC (aA 1) aH) (hb:=rA)) (λ_ _ _ _=>(aY GC)) (λ_ _ _ _=>mO) (λ_ _ _ _=>(bB dH (bB dH (Cy (aA 1) oA (kO (aA 3))) (bQ (aA 2) (bB jZ (bB dH (bB Bh (bQ (aA 4) aL) aL) (bB Jf aL (aA 0))) aL))) (Cy (aA 1) (kO (bB dH (aA 3) aL)) oA))))))))))))
theorem Q2{f:r_}{fd:z6}(hbn:∀x∈bsL,mg x=b_)(F:Zn "_law_base" "_law_base" EE f fd)(kJ:uC P w K mg base cl):j_ 2 f fd ["_law_script","_law_hand"] (spM (s_ 0) 2 Ej):=
 let ⟨_,_,sE,sF⟩:=kJ;bO (C:=s_ 0) (k:=1) (N:=["_law_script","_law_hand","_law_rows","_law_k","_law_number"]) (body:=Im) (λ_ _ _ h=>h) hbn F AN λcdv A outer s H E=>
 (aF (bJ (i:=2) AN.nd (eY aH))
 (aF (qD (Bn (aC (bB jZ (bB Bh (s_call sE sF (aC (aA 0) (aC aL aH))) aL) aL) aH) (hb:=rA)) (aY AN.nd)
  (aF (bJ (i:=4) AN.nd (bB dH (bB M6 (bB jZ (s_call sE sF (aC (aA 0) (aC (bB dH aL (aA 3)) aH))) (bB M6 (bB Jf aL (bB Qy aL aL)) aL)) (bB Qy aL aL)) aL))
  (aM (kA (Z6 (aA 2) (aC (cK (aC (cK (aC (aA 1) (aC (bB dH (aA 3) aL) aH))) (aC dO (aC (cK (aC dO (aC aL aH))) (aC (bQ dO (aA 3)) (aC (aA 4) aH)))))) aH))))))
 (aM (bH (cK (aC (aA 2) (aC (eY aH) aH)))))))
theorem NJ{f:r_}{fd:z6}(hbn:∀x∈bsL,mg x=b_)(F:Zn "_law_deeds" "_law_deeds" AO f fd):Zp ["_law_cells","_law_first","_law_hands_here"] (spM (s_ 0) 3 AC):=
 bO (C:=s_ 0) (k:=0) (N:=["_law_cells","_law_first","_law_hands_here","_law_rows","_law_many","_law_cell","_law_hand","_law_number","_law_seen","_law_act"]) (body:=Ek) (λ_ _ _ h=>h) hbn F iE λcdv A outer s H E=>
 (aF (bJ (i:=3) iE.nd (eY aH))
 (aF (bJ (i:=4) iE.nd lZ)
 (aF (qD (kB (aA 0)) (aY iE.nd)
  (aF (bJ (i:=6) iE.nd (bQ (aA 2) (bB jZ (aA 5) (eZ FM PyProof.Rows.Boot.«len» (aC (aA 2) aH) (hb:=C3)))))
  (aF (bJ (i:=7) iE.nd (bB dH (OZ Xa WN PySem.F.type_dict_get QG (aA 4) (aC (aA 6) (aC aL aH))) aL))
  (aF (tS (aA 7) (aA 4) (aA 6))
  (aF (bJ (i:=8) iE.nd (eY (aC (cK (aC (aA 1) (aC aL aH))) aH)))
  (aF (jO (dB Vq (aA 7) aL)
   (aM (kA (Z6 (aA 8) (aC (cK (aC (aA 6) (aC (bB M6 (aA 7) aL) aH))) aH))))
   cQ)
  (aF (bJ (i:=9) iE.nd (cK (aC dO aH)))
  (aF (jO (dB xV (bB jZ (bB Bh (aA 5) aL) aL) aL)
   (aM (bJ (i:=9) iE.nd (cK (aC dO (aC (bB dH aL (bB jZ (bB Bh (aA 5) aL) (aA 7))) (aC (bB dH (bB dH aL (bB jZ (bB Bh (aA 5) aL) (aA 7))) (bB jZ (bB Bh (aA 5) aL) aL)) aH))))))
   cQ)
  (aM (kA (Z6 (aA 3) (aC (cK (aC (cK (aC (aA 6) (aC (aA 7) aH))) (aC (nD OK PyProof.Rows.Boot.«tuple» (aC (eZ MD PyProof.Rows.Boot.«sorted» (aC (aA 8) aH) (hb:=nR)) aH) (hb:=wD)) (aC (aA 9) aH)))) aH))))))))))))
 (aM (bH (aA 3))))))
theorem NK{f:r_}{fd:z6}(hbn:∀x∈bsL,mg x=b_)(F:Zn "empty" "empty" AQ f fd):Zp [] (spM (s_ 0) 0 jD):=
 bO (C:=s_ 0) (k:=0) (N:=[]) (body:=El) (λ_ _ _ h=>h) hbn F NC λcdv A outer s H E=>
 (aM (bH (cK (aC (eY aH) (aC (eY aH) aH)))))
theorem NL{f:r_}{fd:z6}(hbn:∀x∈bsL,mg x=b_)(F:Zn "_law_alike" "_law_alike" AR f fd):Zp ["_law_found","_law_base_here"] (spM (s_ 0) 2 oG):=
 bO (C:=s_ 0) (k:=0) (N:=["_law_found","_law_base_here"]) (body:=Em) (λ_ _ _ h=>h) hbn F ND λcdv A outer s H E=>
 (aF (jO (SW.t (w_or (zN (vE (eZ fN PyProof.Rows.Boot.«isinstance» (aC (aA 0) (aC (xT (n:="tuple") PyProof.Rows.Boot.«tuple» (hb:=wD)) aH)) (hb:=eU)))) (De (dB U1 (eZ FM PyProof.Rows.Boot.«len» (aC (aA 0) aH) (hb:=C3)) aL))))
  (aM (bH Ko))
  cQ)
 (aF (jO (SW.t (w_or (zN (vE (eZ fN PyProof.Rows.Boot.«isinstance» (aC (bQ (aA 0) aL) (aC (xT (n:="list") PyProof.Rows.Boot.«list» (hb:=mL)) aH)) (hb:=eU)))) (De (zN (vE (eZ fN PyProof.Rows.Boot.«isinstance» (aC (bQ (aA 0) aL) (aC (xT (n:="list") PyProof.Rows.Boot.«list» (hb:=mL)) aH)) (hb:=eU)))))))
  (aM (bH Ko))
  cQ)
 (aM (bH (QA (Jd Il (aA 0) (aA 1)) (Qz (Jd xV (kR (js:=[b_]) (N:=C0) rfl rfl (by rfl) (kB (bQ (aA 0) aL)) (λ_ _ _ _=>(aY GD)) (λ_ _ _ _=>(HQ (zN (vE (eZ fN PyProof.Rows.Boot.«isinstance» (aC (aA 0) (aC (xT (n:="tuple") PyProof.Rows.Boot.«tuple» (hb:=wD)) aH)) (hb:=eU)))))) (λ_ _ _ _=>(aA 0))) (eY aH))))))))
theorem CF{f:r_}{fd:z6}(hbn:∀x∈bsL,mg x=b_)(F:Zn "told" "Count.told" oT f fd)(eT:iA (s_ 0) "total"):Zp ["self"] (spM (s_ 0) 1 cS):=
 bO (C:=s_ 0) (k:=0) (N:=["self"]) (body:=oH) (λ_ _ _ h=>h) hbn F CC λcdv A outer s H E=>
 (aM (bH (fC eT (aA 0))))
theorem Ad{f:r_}{fd:z6}(hbn:∀x∈bsL,mg x=b_)(F:Zn "kind_of" "Tree.kind_of" lF f fd){rC:r_}(kI:mg "ROOT" = c_ rC)(ah:MW K rC [.str "",.int (0)])(cE:iA (s_ 0) "made"):Zp ["self","thing"] (spM (s_ 0) 2 bA):=
 bO (C:=s_ 0) (k:=0) (N:=["self","thing"]) (body:=iB) (λ_ _ _ h=>h) hbn F Ab λcdv A outer s H E=>
 (aF (jO (dB xV (aA 1) (Ii kI ah))
  (aM (bH dO))
  cQ)
 (aM (bH (E2 (dB Dk (aA 1) (fC cE (aA 0))) (bQ (bQ (fC cE (aA 0)) (aA 1)) aL) Bg))))
theorem C9{f:r_}{fd:z6}(hbn:∀x∈bsL,mg x=b_)(F:Zn "within" "Tree.within" mU f fd){cI:r_}(cT:cl "Tree" = a_ cI)(bT:Cls K cI)(eI:J_ 1 cI "kind_of" ["self","thing"] 2 bA)(cE:iA (s_ 0) "made"):j_ 2 f fd ["self","thing"] (spM (s_ 0) 2 cU):=
 let ⟨_,_,jW,lK,lL⟩:=eI;bO (C:=s_ 0) (k:=1) (N:=["self","thing","spots"]) (body:=mT) (λ_ _ _ h=>h) hbn F qS λcdv A outer s H E=>
 (aF (Ss true (qE dR fD (mUn (bM "made") (mV 0))) (Dg (i:=2) qS.nd rfl rfl (js:=[b_,b_,a_ 1]) (N:=nP) rfl rfl (by rfl) (N3 true (λ_=>⟨_,_,_,rfl⟩) (My Xa PySem.F.slot_dict_items PySem.F.type_dict_items Ga (fC cE (aA 0)))) (λ_ _ _ _=>(vH (cP (aY mH) (cP (aY mH) vG)))) (λ_ _ _ _=>(HQ (dB xV (bQ (aA 1) aL) (aA 2)))) (λ_ _ _ _=>(cK (aC (bQ (aA 1) aL) (aC (aA 0) aH))))))
 (aF (jO (dB xV (kX (tb:=dN) (cR cT bT jW nofun lK lL eW) (aA 0) (aC (aA 1) aH)) dO)
  (aM BM)
  cQ)
 (aM (bH (kR (js:=[b_,b_]) (N:=nQ) rfl rfl (by rfl) (kB (eZ KD PyProof.Rows.Boot.«sorted» (aC (aA 2) aH) (hb:=nR))) (λ_ _ _ _=>(vH (cP (aY mI) (cP (aY mI) vG)))) (λ_ _ _ _=>mO) (λ_ _ _ _=>(aA 1)))))))
theorem uD{f:r_}{fd:z6}(hbn:∀x∈bsL,mg x=b_)(F:Zn "hanging" "Folding.hanging" iF f fd){cI:r_}(cT:cl "Tree" = a_ cI)(bT:Cls K cI)(eV:J_ 2 cI "within" ["self","thing"] 2 cU){rC:r_}(kI:mg "ROOT" = c_ rC)(ah:MW K rC [.str "",.int (0)])(dU:iA (s_ 0) "tree"):j_ 3 f fd ["self"] (spM (s_ 0) 1 cN):=
 let ⟨_,_,lM,mW,mX⟩:=eV;bO (C:=s_ 0) (k:=2) (N:=["self","found","left","thing"]) (body:=iC) (λ_ _ _ h=>h) hbn F eQ λcdv A outer s H E=>
 (aF (bJ (i:=1) eQ.nd (eY aH))
 (aF (bJ (i:=2) eQ.nd (eY (aC (Ii kI ah) aH)))
 (aF (OM (vE (aA 2))
  (aF (bJ (i:=3) eQ.nd (Mh VZ PySem.F.slot_list_pop PySem.F.type_list_pop U6 (aA 2)))
  (aF (kA (Z6 (aA 1) (aC (aA 3) aH)))
  (aM (kA (Cz VZ PySem.F.slot_list_extend PySem.F.type_list_extend N' (aA 2) (aC (kX (tb:=fO) (cR cT bT lM nofun mW mX eW) (fC dU (aA 0)) (aC (aA 3) aH)) aH)))))))
 (aM (bH (aA 1))))))
theorem ES{f:r_}{fd:z6}(hbn:∀x∈bsL,mg x=b_)(F:Zn "held" "Tree.held" qT f fd)(cE:iA (s_ 0) "made"):Zp ["self","thing"] (spM (s_ 0) 2 fI):=
 bO (C:=s_ 0) (k:=0) (N:=["self","thing"]) (body:=qK) (λ_ _ _ h=>h) hbn F EF λcdv A outer s H E=>
 (aM (bH (E2 (dB Dk (aA 1) (fC cE (aA 0))) (Cy (bQ (fC cE (aA 0)) (aA 1)) (kO aL) oA) Bg)))
theorem uE{f:r_}{fd:z6}(hbn:∀x∈bsL,mg x=b_)(F:Zn "telling" "Folding.telling" iG f fd){bY:r_}(dE:cl "Count" = a_ bY)(bU:Cls K bY){cI:r_}(cT:cl "Tree" = a_ cI)(bT:Cls K cI)(fQ:J_ 1 bY "told" ["self"] 1 cS)(rD:J_ 1 cI "held" ["self","thing"] 2 fI)(eI:J_ 1 cI "kind_of" ["self","thing"] 2 bA)(eV:J_ 2 cI "within" ["self","thing"] 2 cU)(bV:iA (s_ 0) "leaves")(dU:iA (s_ 0) "tree"):j_ 3 f fd ["self","thing","tellings"] (spM (s_ 0) 3 bI):=
 let ⟨_,_,mY,pA,pB⟩:=fQ;let ⟨_,_,ET,GN,GO⟩:=rD;let ⟨_,_,jW,lK,lL⟩:=eI;let ⟨_,_,lM,mW,mX⟩:=eV;bO (C:=s_ 0) (k:=2) (N:=["self","thing","tellings","kind"]) (body:=fE) (λ_ _ _ h=>h) hbn F lG λcdv A outer s H E=>
 (aF (bJ (i:=3) lG.nd (kX (tb:=dN) (cR cT bT jW nofun lK lL eW) (fC dU (aA 0)) (aC (aA 1) aH)))
 (aF (jO (dB Dk (aA 1) (fC bV (aA 0)))
  (aM (bH (cK (aC (aA 3) (aC (oE (tb:=AD) (cR dE bU mY nofun pA pB eW) (bQ (fC bV (aA 0)) (aA 1))) aH)))))
  cQ)
 (aM (bH (cK (aC (aA 3) (aC (kR (js:=[b_,a_ 2,a_ 0]) (N:=jJ) rfl rfl (by rfl) (kB (kX (tb:=fO) (cR cT bT lM nofun mW mX eW) (fC dU (aA 0)) (aC (aA 1) aH))) (λ_ _ _ _=>(aY pQ)) (λ_ _ _ _=>mO) (λ_ _ _ _=>(cK (aC (bQ (kX (tb:=vT) (cR cT bT ET nofun GN GO eW) (fC dU (aA 2)) (aC (aA 0) aH)) aL) (aC (aA 0) (aC (bQ (aA 1) (aA 0)) aH)))))) aH)))))))
theorem Ae{f:r_}{fd:z6}(hbn:∀x∈bsL,mg x=b_)(F:Zn "told" "Folding.told" lH f fd){aV:r_}(bE:cl "Folding" = a_ aV)(aW:Cls K aV)(iI:J_ 3 aV "hanging" ["self"] 1 cN)(iJ:J_ 3 aV "telling" ["self","thing","tellings"] 3 bI){rC:r_}(kI:mg "ROOT" = c_ rC)(ah:MW K rC [.str "",.int (0)]):j_ 4 f fd ["self"] (spM (s_ 0) 1 eD):=
 let ⟨_,_,uF,wG,wH⟩:=iI;let ⟨_,_,uG,wI,wJ⟩:=iJ;bO (C:=s_ 0) (k:=3) (N:=["self","tellings","thing"]) (body:=kZ) (λ_ _ _ h=>h) hbn F jS λcdv A outer s H E=>
 (aF (bJ (i:=1) jS.nd lZ)
 (aF (qD (Uv (aC (oE (tb:=oI) (cR bE aW uF nofun wG wH eW) (aA 0)) aH) (hb:=(.tail _ (.tail _ (.tail _ (.tail _ (.tail _ (.tail _ (.head _))))))))) (aY jS.nd)
  (aM (tS (kX (tb:=oJ) (cR bE aW uG nofun wI wJ eW) (aA 0) (aC (aA 2) (aC (aA 1) aH))) (aA 1) (aA 2))))
 (aM (bH (bQ (aA 1) (Ii kI ah))))))
theorem yO{f:r_}{fd:z6}(hbn:∀x∈bsL,mg x=b_)(F:Zn "__init__" "Tree.__init__" jT f fd)(fR:iA (s_ 0) "failed")(cE:iA (s_ 0) "made"):Zp ["self"] (spM (s_ 0) 1 eS):=
 bO (C:=s_ 0) (k:=0) (N:=["self"]) (body:=jQ) (λ_ _ _ h=>h) hbn F yM λcdv A outer s H E=>
 (aF (zV cE lZ (aA 0))
 (aM (zV fR (eY aH) (aA 0))))
theorem CG{f:r_}{fd:z6}(hbn:∀x∈bsL,mg x=b_)(F:Zn "fill" "Count.fill" oU f fd)(eT:iA (s_ 0) "total"):Zp ["self","content"] (spM (s_ 0) 2 iD):=
 bO (C:=s_ 0) (k:=0) (N:=["self","content"]) (body:=oK) (λ_ _ _ h=>h) hbn F CD λcdv A outer s H E=>
 (aM (zV eT (aA 1) (aA 0)))
theorem EU{f:r_}{fd:z6}(hbn:∀x∈bsL,mg x=b_)(F:Zn "fill" "Tree.fill" qU f fd)(fR:iA (s_ 0) "failed")(cE:iA (s_ 0) "made"):Zp ["self","rows","lost"] (spM (s_ 0) 3 gK):=
 bO (C:=s_ 0) (k:=0) (N:=["self","rows","lost","thing","kind","holder","spot"]) (body:=qL) (λ_ _ _ h=>h) hbn F iH λcdv A outer s H E=>
 (aF (zV cE lZ (aA 0))
 (aF (qD (kB (aA 1)) (vH (cP (aY iH.nd) (cP (aY iH.nd) (cP (aY iH.nd) (cP (aY iH.nd) vG)))))
  (aM (tS (cK (aC (aA 4) (aC (aA 5) (aC (aA 6) aH)))) (fC cE (aA 0)) (aA 3))))
 (aM (zV fR (nD Bk PyProof.Rows.Boot.«list» (aC (aA 2) aH) (hb:=mL)) (aA 0)))))
theorem wK{f:r_}{fd:z6}(hbn:∀x∈bsL,mg x=b_)(F:Zn "__init__" "Count.__init__" iT f fd)(eT:iA (s_ 0) "total"):Zp ["self"] (spM (s_ 0) 1 fP):=
 bO (C:=s_ 0) (k:=0) (N:=["self"]) (body:=iQ) (λ_ _ _ h=>h) hbn F wA λcdv A outer s H E=>
 (aM (zV eT aL (aA 0)))
theorem IH{f:r_}{fd:z6}(hbn:∀x∈bsL,mg x=b_)(F:Zn "leaf_of" "leaf_of" sA f fd){bY:r_}(dE:cl "Count" = a_ bY)(bU:Cls K bY)(iU:tMk P w K mg base cl 1 bY "__init__" ["self"] 1 fP)(Ca:mg "Count" = c_ bY):j_ 3 f fd ["kind"] (spM (s_ 0) 1 rW):=
 let ⟨_,_,JP,yP,yQ,NM⟩:=iU;bO (C:=s_ 0) (k:=2) (N:=["kind"]) (body:=yI) (λ_ _ _ h=>h) hbn F ID λcdv A outer s H E=>
 (aF (jO (dB xV (aA 0) dO)
  (aM (bH (JB dE NM yP Ca yQ)))
  cQ)
 (aF (jO (dB xV (aA 0) dO)
  (aM BM)
  cQ)
 (aF (jO (dB xV (aA 0) dO)
  (aM BM)
  cQ)
 (aF (jO (dB xV (aA 0) dO)
  (aM BM)
  cQ)
 (aM (bH Bg))))))
theorem sJ{f:r_}{fd:z6}(hbn:∀x∈bsL,mg x=b_)(F:Zn "add_leaf" "Folding.add_leaf" fX f fd)(yR:C5 P w K mg base cl)(bV:iA (s_ 0) "leaves"):j_ 4 f fd ["self","thing","kind"] (spM (s_ 0) 3 cA):=
 let ⟨_,_,L5,L6⟩:=yR;bO (C:=s_ 0) (k:=3) (N:=["self","thing","kind","leaf"]) (body:=fV) (λ_ _ _ h=>h) hbn F kF λcdv A outer s H E=>
 (aF (bJ (i:=3) kF.nd (s_call L5 L6 (aC (aA 2) aH)))
 (aM (jO (dB Jg (aA 3) Bg)
  (aM (tS (aA 3) (fC bV (aA 0)) (aA 1)))
  cQ)))
theorem sL{f:r_}{fd:z6}(hbn:∀x∈bsL,mg x=b_)(F:Zn "__init__" "Folding.__init__" fY f fd){bY:r_}(dE:cl "Count" = a_ bY)(bU:Cls K bY){cI:r_}(cT:cl "Tree" = a_ cI)(bT:Cls K cI){aV:r_}(bE:cl "Folding" = a_ aV)(aW:Cls K aV)(pC:J_ 1 bY "fill" ["self","content"] 2 iD)(fZ:J_ 4 aV "add_leaf" ["self","thing","kind"] 3 cA)(jX:tMk P w K mg base cl 1 cI "__init__" ["self"] 1 eS)(rE:J_ 1 cI "fill" ["self","rows","lost"] 3 gK)(EV:mg "Tree" = c_ cI)(bV:iA (s_ 0) "leaves")(dU:iA (s_ 0) "tree"):j_ 5 f fd ["self","base"] (spM (s_ 0) 2 bD):=
 let ⟨_,_,CH,EW,EX⟩:=pC;let ⟨_,_,sM,uH,uI⟩:=fZ;let ⟨_,_,L7,Af,Ag,Q3⟩:=jX;let ⟨_,_,EY,GP,GQ⟩:=rE;bO (C:=s_ 0) (k:=4) (N:=["self","base","rows","lost","thing","kind","holder","spot","content"]) (body:=fW) (λ_ _ _ h=>h) hbn F bF λcdv A outer s H E=>
 (aF (Jh (aA 1) (vH (cP (aY bF.nd) (cP (aY bF.nd) vG))))
 (aF (zV dU (JB cT Q3 Af EV Ag) (aA 0))
 (aF (kA (kX (tb:=AE) (cR cT bT EY nofun GP GQ eW) (fC dU (aA 0)) (aC (kR (js:=[b_]) (N:=iN) rfl rfl (by rfl) (kB (aA 2)) (λ_ _ _ _=>(aY oV)) (λ_ _ _ _=>mO) (λ_ _ _ _=>(Cy (aA 0) oA (kO aL)))) (aC (aA 3) aH))))
 (aF (zV bV lZ (aA 0))
 (aM (qD (kB (aA 2)) (vH (cP (aY bF.nd) (cP (aY bF.nd) (cP (aY bF.nd) (cP (aY bF.nd) (cP (aY bF.nd) vG))))))
  (aF (kA (kX (tb:=mG) (cR bE aW sM nofun uH uI eW) (aA 0) (aC (aA 4) (aC (aA 5) aH))))
  (aM (jO (dB Dk (aA 4) (fC bV (aA 0)))
   (aM (kA (kX (tb:=rX) (cR dE bU CH nofun EW EX eW) (bQ (fC bV (aA 0)) (aA 4)) (aC (aA 8) aH))))
   cQ)))))))))
theorem Q4{f:r_}{fd:z6}(hbn:∀x∈bsL,mg x=b_)(F:Zn "told" "told" EG f fd){bY:r_}(dE:cl "Count" = a_ bY)(bU:Cls K bY){aV:r_}(bE:cl "Folding" = a_ aV)(aW:Cls K aV)(fQ:J_ 1 bY "told" ["self"] 1 cS)(cB:tMk P w K mg base cl 5 aV "__init__" ["self","base"] 2 bD)(lN:J_ 4 aV "told" ["self"] 1 eD)(iV:mg "Folding" = c_ aV):j_ 7 f fd ["base"] (spM (s_ 0) 1 oM):=
 let ⟨_,_,mY,pA,pB⟩:=fQ;let ⟨_,_,sN,gE,gG,uJ⟩:=cB;let ⟨_,_,Ah,Cb,Cc⟩:=lN;bO (C:=s_ 0) (k:=6) (N:=["base"]) (body:=Ip) (λ_ _ _ h=>h) hbn F Q1 λcdv A outer s H E=>
 (aM (bH (oE (tb:=rY) (cR dE bU mY nofun pA pB (cR bE aW Ah nofun Cb Cc eW)) (MT bE uJ gE iV gG (aC (aA 0) aH)))))
theorem NN{f:r_}{fd:z6}(hbn:∀x∈bsL,mg x=b_)(F:Zn "stamp" "stamp" AS f fd):Zp ["deed"] (spM (s_ 0) 1 AH):=
 bO (C:=s_ 0) (k:=0) (N:=["deed"]) (body:=AF) (λ_ _ _ h=>h) hbn F NF λcdv A outer s H E=>
 (aM (bH (bB dH aL (eZ Um PyProof.Rows.Boot.«sum» (aC (kR (js:=[b_]) (N:=C1) rfl rfl (by rfl) (kB (bQ (aA 0) aL)) (λ_ _ _ _=>(aY GF)) (λ_ _ _ _=>mO) (λ_ _ _ _=>(bQ (aA 0) aL))) aH) (hb:=(.tail _ (.tail _ (.tail _ (.tail _ (.tail _ (.tail _ (.tail _ (.head _)))))))))))))
theorem Q5{f:r_}{fd:z6}(hbn:∀x∈bsL,mg x=b_)(F:Zn "rank" "rank" EH f fd)(EZ:GM P w K mg base cl):j_ 2 f fd ["deed"] (spM (s_ 0) 1 En):=
 let ⟨_,_,Q6,Q7⟩:=EZ;bO (C:=s_ 0) (k:=1) (N:=["deed","hand","n"]) (body:=Iq) (λ_ _ _ h=>h) hbn F EI λcdv A outer s H E=>
 (aF (Jh (bQ (aA 0) aL) (vH (cP (aY EI.nd) (cP (aY EI.nd) vG))))
 (aM (bH (cK (aC (s_call Q6 Q7 (aC (aA 0) aH)) (aC (aA 1) (aC (aA 2) aH)))))))
theorem GR{f:r_}{fd:z6}(hbn:∀x∈bsL,mg x=b_)(F:Zn "in_order" "in_order" oW f fd)(II:JO P w K mg base cl):j_ 5 f fd ["deeds"] (spM (s_ 0) 1 iR):=
 let ⟨_,_,SM,SN⟩:=II;bO (C:=s_ 0) (k:=4) (N:=["deeds","by_name","deed"]) (body:=tX) (λ_ _ _ h=>h) hbn F qV λcdv A outer s H E=>
 (aF (bJ (i:=1) qV.nd lZ)
 (aF (qD (kB (aA 0)) (aY qV.nd)
  (aM (tS (aA 2) (aA 1) (bQ (aA 2) aL))))
 (aM (bH (Jy SM SN (My Xa PySem.F.slot_dict_values PySem.F.type_dict_values m_values (aA 1)) (hb:=nR))))))
theorem Ai{f:r_}{fd:z6}(hbn:∀x∈bsL,mg x=b_)(F:Zn "hear" "Folding.hear" lI f fd):Zp ["self","deed"] (spM (s_ 0) 2 dC):=
 bO (C:=s_ 0) (k:=0) (N:=["self","deed","act"]) (body:=lA) (λ_ _ _ h=>h) hbn F pJ λcdv A outer s H E=>
 (aF (bJ (i:=2) pJ.nd (bQ (aA 1) aL))
 (aF (jO (dB Dk (bQ (aA 2) aL) (cK (aC dO (aC dO (aC dO aH)))))
  (aM BM)
  cQ)
 (aF (jO (dB FT (bQ (aA 2) aL) (cK (aC dO (aC dO aH))))
  (aF BM
  (aM BM))
  cQ)
 (aM (bH dO)))))
theorem yS{f:r_}{fd:z6}(hbn:∀x∈bsL,mg x=b_)(F:Zn "content" "Count.content" jU f fd)(eT:iA (s_ 0) "total"):Zp ["self"] (spM (s_ 0) 1 dI):=
 bO (C:=s_ 0) (k:=0) (N:=["self"]) (body:=jR) (λ_ _ _ h=>h) hbn F yN λcdv A outer s H E=>
 (aM (bH (fC eT (aA 0))))
theorem pS{f:r_}{fd:z6}(hbn:∀x∈bsL,mg x=b_)(F:Zn "content_of" "Folding.content_of" fK f fd){bY:r_}(dE:cl "Count" = a_ bY)(bU:Cls K bY)(jY:J_ 1 bY "content" ["self"] 1 dI)(bV:iA (s_ 0) "leaves"):j_ 2 f fd ["self","thing"] (spM (s_ 0) 2 bG):=
 let ⟨_,_,yT,Aj,Ak⟩:=jY;bO (C:=s_ 0) (k:=1) (N:=["self","thing"]) (body:=fJ) (λ_ _ _ h=>h) hbn F pR λcdv A outer s H E=>
 (aM (bH (E2 (dB Dk (aA 1) (fC bV (aA 0))) (oE (tb:=oO) (cR dE bU yT nofun Aj Ak eW) (bQ (fC bV (aA 0)) (aA 1))) Bg)))
theorem F0{f:r_}{fd:z6}(hbn:∀x∈bsL,mg x=b_)(F:Zn "row_thing" "row_thing" mJ f fd):Zp ["row"] (spM (s_ 0) 1 qN):=
 bO (C:=s_ 0) (k:=0) (N:=["row"]) (body:=qM) (λ_ _ _ h=>h) hbn F EJ λcdv A outer s H E=>
 (aM (bH (bQ (aA 0) aL)))
theorem F1{f:r_}{fd:z6}(hbn:∀x∈bsL,mg x=b_)(F:Zn "rows" "Tree.rows" qW f fd)(rF:wF P w K mg base cl)(cE:iA (s_ 0) "made"):j_ 4 f fd ["self"] (spM (s_ 0) 1 gM):=
 let ⟨_,_,GS,GT⟩:=rF;bO (C:=s_ 0) (k:=3) (N:=["self"]) (body:=qO) (λ_ _ _ h=>h) hbn F EK λcdv A outer s H E=>
 (aM (bH (Jy GS GT (Sr true (qE dR fD (mUn (bM "made") (mV 0))) (kR (js:=[b_,b_]) (N:=qX) rfl rfl (by rfl) (N3 true (λ_=>⟨_,_,_,rfl⟩) (My Xa PySem.F.slot_dict_items PySem.F.type_dict_items Ga (fC cE (aA 0)))) (λ_ _ _ _=>(vH (cP (aY pK) (cP (aY pK) vG)))) (λ_ _ _ _=>mO) (λ_ _ _ _=>(bB dH (cK (aC (aA 0) aH)) (aA 1))))) (hb:=nR))))
theorem F2{f:r_}{fd:z6}(hbn:∀x∈bsL,mg x=b_)(F:Zn "lost" "Tree.lost" qY f fd)(fR:iA (s_ 0) "failed"):Zp ["self"] (spM (s_ 0) 1 jI):=
 bO (C:=s_ 0) (k:=0) (N:=["self"]) (body:=qP) (λ_ _ _ h=>h) hbn F EL λcdv A outer s H E=>
 (aM (bH (nD Bk PyProof.Rows.Boot.«list» (aC (fC fR (aA 0)) aH) (hb:=mL))))
theorem Al{f:r_}{fd:z6}(hbn:∀x∈bsL,mg x=b_)(F:Zn "base" "Folding.base" lJ f fd){cI:r_}(cT:cl "Tree" = a_ cI)(bT:Cls K cI){aV:r_}(bE:cl "Folding" = a_ aV)(aW:Cls K aV)(fL:J_ 2 aV "content_of" ["self","thing"] 2 bG)(rG:J_ 1 cI "lost" ["self"] 1 jI)(rH:J_ 4 cI "rows" ["self"] 1 gM)(dU:iA (s_ 0) "tree"):j_ 5 f fd ["self"] (spM (s_ 0) 1 eE):=
 let ⟨_,_,pT,rJ,rK⟩:=fL;let ⟨_,_,F3,GU,GV⟩:=rG;let ⟨_,_,F4,GW,GX⟩:=rH;bO (C:=s_ 0) (k:=4) (N:=["self"]) (body:=lB) (λ_ _ _ h=>h) hbn F Ac λcdv A outer s H E=>
 (aM (bH (cK (aC (kR (js:=[b_,a_ 0]) (N:=mK) rfl rfl (by rfl) (kB (oE (tb:=vV) (cR cT bT F4 nofun GW GX eW) (fC dU (aA 0)))) (λ_ _ _ _=>(aY uB)) (λ_ _ _ _=>mO) (λ_ _ _ _=>(bB dH (aA 0) (cK (aC (kX (tb:=fU) (cR bE aW pT nofun rJ rK eW) (aA 1) (aC (bQ (aA 0) aL) aH)) aH))))) (aC (oE (tb:=AI) (cR cT bT F3 nofun GU GV eW) (fC dU (aA 0))) aH)))))
theorem Q8{f:r_}{fd:z6}(hbn:∀x∈bsL,mg x=b_)(F:Zn "fold" "fold" EM f fd)(iX:rB P w K mg base cl){aV:r_}(bE:cl "Folding" = a_ aV)(aW:Cls K aV)(cB:tMk P w K mg base cl 5 aV "__init__" ["self","base"] 2 bD)(lO:J_ 5 aV "base" ["self"] 1 eE)(lP:J_ 1 aV "hear" ["self","deed"] 2 dC)(iV:mg "Folding" = c_ aV):j_ 7 f fd ["base","deeds"] (spM (s_ 0) 2 yJ):=
 let ⟨_,_,uK,uL⟩:=iX;let ⟨_,_,sN,gE,gG,uJ⟩:=cB;let ⟨_,_,Am,Cd,Ce⟩:=lO;let ⟨_,_,An,Cf,Cg⟩:=lP;bO (C:=s_ 0) (k:=6) (N:=["base","deeds","folding","deed"]) (body:=Ir) (λ_ _ _ h=>h) hbn F EN λcdv A outer s H E=>
 (aF (bJ (i:=2) EN.nd (MT bE uJ gE iV gG (aC (aA 0) aH)))
 (aF (qD (kB (s_call uK uL (aC (aA 1) aH))) (aY EN.nd)
  (aM (kA (kX (tb:=AJ) (cR bE aW An nofun Cf Cg eW) (aA 2) (aC (aA 3) aH)))))
 (aM (bH (oE (tb:=AK) (cR bE aW Am nofun Cd Ce eW) (aA 2))))))
theorem IJ{f:r_}{fd:z6}(hbn:∀x∈bsL,mg x=b_)(F:Zn "name_of" "name_of" sC f fd):Zp ["deed"] (spM (s_ 0) 1 nJ):=
 bO (C:=s_ 0) (k:=0) (N:=["deed"]) (body:=yK) (λ_ _ _ h=>h) hbn F IE λcdv A outer s H E=>
 (aM (bH (bQ (aA 0) aL)))
theorem GY{f:r_}{fd:z6}(hbn:∀x∈bsL,mg x=b_)(F:Zn "taker_of" "taker_of" oX f fd):Zp ["n","backs"] (spM (s_ 0) 2 oP):=
 bO (C:=s_ 0) (k:=0) (N:=["n","backs","back","word","first","last"]) (body:=tY) (λ_ _ _ h=>h) hbn F jK λcdv A outer s H E=>
 (aF (qD (kB (aA 1)) (aY jK.nd)
  (aF (Jh (bQ (aA 2) aL) (vH (cP (aY jK.nd) (cP (aY jK.nd) (cP (aY jK.nd) vG)))))
  (aM (jO (U2 U0 U0 (aA 4) (aA 0) (aA 5))
   (aM (bH (bQ (aA 2) aL)))
   cQ))))
 (aM (bH Bg)))
theorem L8{f:r_}{fd:z6}(hbn:∀x∈bsL,mg x=b_)(F:Zn "takers" "takers" wB f fd)(yU:C6 P w K mg base cl)(uM:zY P w K mg base cl):j_ 4 f fd ["deeds"] (spM (s_ 0) 1 vX):=
 let ⟨_,_,L9,L'⟩:=yU;let ⟨_,_,IK,IL⟩:=uM;bO (C:=s_ 0) (k:=3) (N:=["deeds","taken","backs","deed","hand","n","word","by"]) (body:=BQ) (λ_ _ _ h=>h) hbn F gQ λcdv A outer s H E=>
 (aF (bJ (i:=1) gQ.nd lZ)
 (aF (bJ (i:=2) gQ.nd lZ)
 (aF (qD (kB (MQ L9 L' (aA 0) (hb:=nR))) (aY gQ.nd)
  (aF (Jh (bQ (aA 3) aL) (vH (cP (aY gQ.nd) (cP (aY gQ.nd) vG))))
  (aF (bJ (i:=6) gQ.nd (bQ (bQ (aA 3) aL) aL))
  (aF (jO (dB xV (aA 6) dO)
   (aF (tS (eY aH) (aA 2) (aA 4))
   (aM U5))
   cQ)
  (aF (bJ (i:=7) gQ.nd (s_call IK IL (aC (aA 5) (aC (OZ Xa WN PySem.F.type_dict_get QG (aA 2) (aC (aA 4) (aC (eY aH) aH))) aH))))
  (aM (jO (dB Jg (aA 7) Bg)
   (aM (tS (aA 7) (aA 1) (bQ (aA 3) aL)))
   (aM (jO (dB xV (aA 6) dO)
    (aM (kA (Z6 (OZ Xa Yh PySem.F.type_dict_setdefault Eb (aA 2) (aC (aA 4) (aC (eY aH) aH))) (aC (aA 3) aH))))
    cQ)))))))))
 (aM (bH (aA 1))))))
theorem GZ{f:r_}{fd:z6}(hbn:∀x∈bsL,mg x=b_)(F:Zn "in_force" "in_force" oY f fd)(iX:rB P w K mg base cl)(Ci:DE P w K mg base cl):j_ 6 f fd ["deeds"] (spM (s_ 0) 1 lC):=
 let ⟨_,_,uK,uL⟩:=iX;let ⟨_,_,NO,NP⟩:=Ci;bO (C:=s_ 0) (k:=5) (N:=["deeds","ordered","taken"]) (body:=tZ) (λ_ _ _ h=>h) hbn F qZ λcdv A outer s H E=>
 (aF (bJ (i:=1) qZ.nd (s_call uK uL (aC (aA 0) aH)))
 (aF (bJ (i:=2) qZ.nd (s_call NO NP (aC (aA 1) aH)))
 (aM (bH (kR (js:=[b_,a_ 2]) (N:=sS) rfl rfl (by rfl) (kB (aA 1)) (λ_ _ _ _=>(aY C2)) (λ_ _ _ _=>(HQ (dB FT (bQ (aA 0) aL) (aA 1)))) (λ_ _ _ _=>(aA 0)))))))
theorem IM{f:r_}{fd:z6}(hbn:∀x∈bsL,mg x=b_)(F:Zn "reading" "reading" sD f fd)(sG:C4 P w K mg base cl)(yV:EO P w K mg base cl)(yW:ER P w K mg base cl)(uN:zZ P w K mg base cl):j_ 8 f fd ["deeds"] (spM (s_ 0) 1 gO):=
 let ⟨_,_,AU,AV⟩:=sG;let ⟨_,_,Cj,Ck⟩:=yV;let ⟨_,_,IP,IQ⟩:=yW;let ⟨_,_,IR,IS⟩:=uN;bO (C:=s_ 0) (k:=7) (N:=["deeds"]) (body:=yL) (λ_ _ _ h=>h) hbn F IF λcdv A outer s H E=>
 (aM (bH (s_call Cj Ck (aC (s_call IP IQ (aC (Eh AU AV) (aC (s_call IR IS (aC (aA 0) aH)) aH))) aH))))
theorem SQ{f:r_}{fd:z6}(hbn:∀x∈bsL,mg x=b_)(F:Zn "law" "law" wC f fd)(kJ:uC P w K mg base cl)(F5:GH P w K mg base cl)(IT:JN P w K mg base cl)(F6:GI P w K mg base cl)(sG:C4 P w K mg base cl)(F7:GK P w K mg base cl)(yV:EO P w K mg base cl)(yW:ER P w K mg base cl)(yX:C7 P w K mg base cl):j_ 9 f fd ["_law_script"] (spM (s_ 0) 1 Nb):=
 let ⟨_,_,sE,sF⟩:=kJ;let ⟨_,_,Q9,Qa⟩:=F5;let ⟨_,_,SR,SS⟩:=IT;let ⟨_,_,Qb,Qc⟩:=F6;let ⟨_,_,AU,AV⟩:=sG;let ⟨_,_,JQ,JR⟩:=F7;let ⟨_,_,Cj,Ck⟩:=yV;let ⟨_,_,IP,IQ⟩:=yW;let ⟨_,_,DF,DG⟩:=yX;bO (C:=s_ 0) (k:=8) (N:=["_law_script","_law_first","_law_hands_here","_law_base_here","_law_deeds_here","_law_found","_law_handed","_law_rows","_law_asked","_law_what"]) (body:=Na) (λ_ _ _ h=>h) hbn F jV λcdv A outer s H E=>
 (aF (bJ (i:=1) jV.nd (s_call sE sF (aC (aA 0) (aC aL aH))))
 (aF (bJ (i:=2) jV.nd (s_call Q9 Qa (aC (aA 1) (aC (bB dH aL (bB jZ (bB Bh (aA 1) aL) aL)) aH))))
 (aF (bJ (i:=3) jV.nd (s_call SR SS (aC (aA 0) (aC (bQ (aA 2) aL) aH))))
 (aF (bJ (i:=4) jV.nd (s_call Qb Qc (aC (Cy (aA 0) (kO aL) (kO aL)) (aC (bQ (aA 2) aL) (aC (Cy (aA 2) (kO aL) oA) aH)))))
 (aF (bJ (i:=5) jV.nd (Eh AU AV))
 (aF (jO (SW.t (w_or (zN (vE (s_call JQ JR (aC (aA 5) (aC (cK (aC (eY aH) (aC (eY aH) aH))) aH))))) (De (dB tV (s_call Cj Ck (aC (aA 5) aH)) (cK (aC dO (aC (eY aH) aH)))))))
  (aM (bH Ko))
  cQ)
 (aF (kA (Z6 (bQ (aA 5) aL) (aC (cK aH) aH)))
 (aF (kA (Z6 (bQ (aA 5) aL) (aC (cK aH) aH)))
 (aF (jO (SW.t (w_or (dB tV (Eh AU AV) (cK (aC (eY aH) (aC (eY aH) aH)))) (w_or (dB tV (s_call DF DG (aC (eY aH) aH)) (cK (aC dO (aC (eY aH) aH)))) (De (dB tV (s_call DF DG (aC (aA 4) aH)) (cK (aC dO (aC (eY aH) aH))))))))
  (aM (bH Ko))
  cQ)
 (aF (bJ (i:=6) jV.nd (cK (aC (nD Bk PyProof.Rows.Boot.«list» (aC (bQ (aA 3) aL) aH) (hb:=mL)) (aC (nD Bk PyProof.Rows.Boot.«list» (aC (bQ (aA 3) aL) aH) (hb:=mL)) aH))))
 (aF (qD (kB (eY (aC (aA 4) (aC (eY aH) aH)))) (aY jV.nd)
  (aF (bJ (i:=8) jV.nd (nD Bk PyProof.Rows.Boot.«list» (aC (aA 7) aH) (hb:=mL)))
  (aF (bJ (i:=5) jV.nd (s_call IP IQ (aC (aA 6) (aC (aA 8) aH))))
  (aF (jO (SW.t (w_or (zN (vE (s_call JQ JR (aC (aA 5) (aC (aA 3) aH))))) (w_or (dB tV (aA 6) (aA 3)) (De (dB tV (aA 8) (aA 7))))))
   (aM (bH Ko))
   cQ)
  (aF (kA (Mh VZ PySem.F.slot_list_clear PySem.F.type_list_clear Jl (bQ (aA 5) aL)))
  (aM (kA (Z6 (bQ (aA 5) aL) (aC (bQ (aA 2) aL) aH)))))))))
 (aF (Dg (i:=9) jV.nd rfl rfl (js:=[b_,a_ 3]) (N:=GG) rfl rfl (by rfl) (Bn (aC (eZ FM PyProof.Rows.Boot.«len» (aC (bQ (aA 3) aL) aH) (hb:=C3)) aH) (hb:=rA)) (λ_ _ _ _=>(aY L3)) (λ_ _ _ _=>mO) (λ_ _ _ _=>(cK (aC (bQ dO (aA 0)) (aC (bQ (bQ (bQ (aA 1) aL) (aA 0)) aL) (aC (cK (aC dO (aC (bQ (bQ (bQ (aA 1) aL) (aA 0)) aL) aH))) aH))))))
 (aF (bJ (i:=5) jV.nd (s_call Cj Ck (aC (aA 6) aH)))
 (aF (jO (SW.t (w_or (zN (vE (eZ fN PyProof.Rows.Boot.«isinstance» (aC (aA 5) (aC (xT (n:="tuple") PyProof.Rows.Boot.«tuple» (hb:=wD)) aH)) (hb:=eU)))) (w_or (dB tV (aA 5) (cK (aC dO (aC (aA 9) aH)))) (De (zN (vE (eZ fN PyProof.Rows.Boot.«isinstance» (aC (bQ (aA 5) aL) (aC (xT (n:="list") PyProof.Rows.Boot.«list» (hb:=mL)) aH)) (hb:=eU))))))))
  (aM (bH Ko))
  cQ)
 (aF (kA (Mh VZ PySem.F.slot_list_clear PySem.F.type_list_clear Jl (bQ (aA 5) aL)))
 (aM (bH (QA (Jd Il (aA 6) (aA 3)) (Qz (Jd Il (s_call Cj Ck (aC (aA 6) aH)) (cK (aC dO (aC (aA 9) aH)))))))))))))))))))))))
end
def spL(K:y0):Sp:=λvs H Q _=>∃(a:r_)(ns:x_ Int),vs=[.ref a]/\LI H/\ZI a (Z_ 0)/\ns.length<=63/\∀H',Q (.bl true) H'
@[elab_as_elim]theorem pD{P:ZE 0->Prop}(us:ZE 0)(hl:us.length=1)(h:∀a0,P [a0]):P us:=by
 cases us with
 |nil=>cases hl
 |cons a0 us=>
  cases us with
  |nil=>exact h a0
  |cons b us=>simp only[Wi]at hl;omega
@[elab_as_elim]theorem wL{P:ZE 0->Prop}(us:ZE 0)(hl:us.length=2)(h:∀a0 a1,P [a0,a1]):P us:=by
 cases us with
 |nil=>cases hl
 |cons a0 us=>
  cases us with
  |nil=>cases hl
  |cons a1 us=>
   cases us with
   |nil=>exact h a0 a1
   |cons b us=>simp only[Wi]at hl;omega
@[elab_as_elim]theorem Qd{P:ZE 0->Prop}(us:ZE 0)(hl:us.length=3)(h:∀a0 a1 a2,P [a0,a1,a2]):P us:=by
 cases us with
 |nil=>cases hl
 |cons a0 us=>
  cases us with
  |nil=>cases hl
  |cons a1 us=>
   cases us with
   |nil=>cases hl
   |cons a2 us=>
    cases us with
    |nil=>exact h a0 a1 a2
    |cons b us=>simp only[Wi]at hl;omega
theorem all_mk{l:PySem.W.OpenLaw}{w:u_}{K:y0}{h:t_}{mg:m_ 0}{fa aI aK aD NQ F8:r_}(X:K.In h)(G:h.Ns WD mg)(xq:mg "law" = c_ fa)(hbn:∀x∈bsL,mg x=b_)
  (Qe:YM K WD "Count" = a_ (c_ aI))
  (NR:XC K aI Str.empty=true)
  (NS:XX K aI=true)
  (NT:Yr K aI=true)
  (NU:zy K (.ref aI) "__setattr__" = a_ (a_ (.builtin "object.__setattr__")))
  (NV:Yi K aI=true)
  (NW:WO K (.ref aI)=true)
  (Ao:zy K (.ref aI) "failed" = a_ b_)
  (Ap:zy K (.ref aI) "leaves" = a_ b_)
  (CI:zy K (.ref aI) "made" = a_ b_)
  (Cm:zy K (.ref aI) "total" = a_ b_)
  (CJ:zy K (.ref aI) "tree" = a_ b_)
  (SU:YM K WD "Tree" = a_ (c_ aK))
  (Qf:XC K aK Str.empty=true)
  (Qg:XX K aK=true)
  (Qh:Yr K aK=true)
  (Qi:zy K (.ref aK) "__setattr__" = a_ (a_ (.builtin "object.__setattr__")))
  (Qj:Yi K aK=true)
  (Qk:WO K (.ref aK)=true)
  (Cn:zy K (.ref aK) "failed" = a_ b_)
  (Co:zy K (.ref aK) "leaves" = a_ b_)
  (F9:zy K (.ref aK) "made" = a_ b_)
  (CK:zy K (.ref aK) "total" = a_ b_)
  (Fb:zy K (.ref aK) "tree" = a_ b_)
  (La:YM K WD "Folding" = a_ (c_ aD))
  (IU:XC K aD Str.empty=true)
  (IV:XX K aD=true)
  (IW:Yr K aD=true)
  (IX:zy K (.ref aD) "__setattr__" = a_ (a_ (.builtin "object.__setattr__")))
  (IY:Yi K aD=true)
  (IZ:WO K (.ref aD)=true)
  (wM:zy K (.ref aD) "failed" = a_ b_)
  (wN:zy K (.ref aD) "leaves" = a_ b_)
  (Aq:zy K (.ref aD) "made" = a_ b_)
  (yY:zy K (.ref aD) "total" = a_ b_)
  (Ar:zy K (.ref aD) "tree" = a_ b_)
  (yZ:MtX K aI "__init__" "Count.__init__" iT)
  (As:MtX K aI "content" "Count.content" jU)
  (Fc:MtX K aI "fill" "Count.fill" oU)
  (Fd:MtX K aI "told" "Count.told" oT)
  (Au:MtX K aK "__init__" "Tree.__init__" jT)
  (Ha:MtX K aK "fill" "Tree.fill" qU)
  (Hb:MtX K aK "held" "Tree.held" qT)
  (Cp:MtX K aK "kind_of" "Tree.kind_of" lF)
  (Hc:MtX K aK "lost" "Tree.lost" qY)
  (Hd:MtX K aK "rows" "Tree.rows" qW)
  (CL:MtX K aK "within" "Tree.within" mU)
  (uO:MtX K aD "__init__" "Folding.__init__" fY)
  (uP:MtX K aD "add_leaf" "Folding.add_leaf" fX)
  (Cq:MtX K aD "base" "Folding.base" lJ)
  (rN:MtX K aD "content_of" "Folding.content_of" fK)
  (wO:MtX K aD "hanging" "Folding.hanging" iF)
  (Cr:MtX K aD "hear" "Folding.hear" lI)
  (wQ:MtX K aD "telling" "Folding.telling" iG)
  (Cs:MtX K aD "told" "Folding.told" lH)
  (Lb:DfX K "_law_cell_at" rZ)
  (NX:DfX K "_law_stream" vZ)
  (Ql:DfX K "_law_hands" AM)
  (SV:DfX K "_law_base" EE)
  (Qm:DfX K "_law_deeds" AO)
  (Qn:DfX K "empty" AQ)
  (Qo:DfX K "_law_alike" AR)
  (Lc:DfX K "leaf_of" sA)
  (SX:DfX K "told" EG)
  (Qp:DfX K "stamp" AS)
  (SY:DfX K "rank" EH)
  (J1:DfX K "in_order" oW)
  (He:DfX K "row_thing" mJ)
  (SZ:DfX K "fold" EM)
  (Ld:DfX K "name_of" sC)
  (J2:DfX K "taker_of" oX)
  (NY:DfX K "takers" wB)
  (J3:DfX K "in_force" oY)
  (Le:DfX K "reading" sD)
  (UF:YM K WD "law" = a_ (c_ NQ))
  {T1 NZ JS O0 Fe O1:qe} {T2 O2:y_ r_} {Qq:l_ 0}
  (UG:K.lookup NQ=a_ ⟨T1,T2,.func (Xc "law" "law" (hV wC) (fM wC) (aJ wC) .none NZ JS O0 O2 Fe O1),Qq⟩)
  (UH:Yz K Fe "law" = true)
  (UI:WO K (.ref NQ)=true)
  {aw:Y6 0} {da:Nat} {gq:l_ 0}
  (T3:YM K WD "ROOT" = a_ (c_ F8))
  (jg:K.lookup F8=a_ ⟨.type "tuple",b_,.seq aw da,gq⟩)
  (jm:aS [.str "",.int (0)] aw.toList)
  (jd:aw.size<=zf)
  : ∃fd:z6,(∀(s:q_)(v:qe),BindsTo s fd ⟨[v],[]⟩ [("_law_script",v)])/\∀base:t_,K.In base->base.Ns WD mg->aT l.prog w K mg base CX0 9 fa fd ["_law_script"] (spL K):=by
 let e:=xq.symm.trans (YT X G UF);cases e
 let dE:(D_ 0) "Count" = a_ aI:=(Zc 0);let bU:Cls K aI:=⟨NR,NS,NT,NU⟩;let Ca:mg "Count" = c_ aI:=YT X G Qe;let cT:(D_ 0) "Tree" = a_ aK:=((if_neg nofun).trans (Zc 0));let bT:Cls K aK:=⟨Qf,Qg,Qh,Qi⟩;let EV:mg "Tree" = c_ aK:=YT X G SU;let bE:(D_ 0) "Folding" = a_ aD:=((if_neg nofun).trans ((if_neg nofun).trans (Zc 0)));let aW:Cls K aD:=⟨IU,IV,IW,IX⟩;let iV:mg "Folding" = c_ aD:=YT X G La;let kI:mg "ROOT" = c_ F8:=YT X G T3;let ah:MW K F8 [.str "",.int (0)]:=⟨_,aw,da,[.str "",.int (0)],jg,rfl,rfl,jd,jm,rfl,rfl⟩;let fR:iA (cC w K (D_ 0)) "failed" := λc a hc=>by
  let ae:(D_ 0) c=a_ a:=hc;dsimp only[clF]at ae;by_cases fF:c="Count"
  ·rw[if_pos fF]at ae;cases ae
   show⟨bU,Ao⟩
  rw[if_neg fF]at ae;by_cases iK:c="Tree"
  ·rw[if_pos iK]at ae;cases ae
   show⟨bT,Cn⟩
  rw[if_neg iK]at ae;by_cases cO:c="Folding"
  ·rw[if_pos cO]at ae;cases ae
   show⟨aW,wM⟩
  rw[if_neg cO]at ae;cases ae
 let bV:iA (cC w K (D_ 0)) "leaves" := λc a hc=>by
  let ae:(D_ 0) c=a_ a:=hc;dsimp only[clF]at ae;by_cases fF:c="Count"
  ·rw[if_pos fF]at ae;cases ae
   show⟨bU,Ap⟩
  rw[if_neg fF]at ae;by_cases iK:c="Tree"
  ·rw[if_pos iK]at ae;cases ae
   show⟨bT,Co⟩
  rw[if_neg iK]at ae;by_cases cO:c="Folding"
  ·rw[if_pos cO]at ae;cases ae
   show⟨aW,wN⟩
  rw[if_neg cO]at ae;cases ae
 let cE:iA (cC w K (D_ 0)) "made" := λc a hc=>by
  let ae:(D_ 0) c=a_ a:=hc;dsimp only[clF]at ae;by_cases fF:c="Count"
  ·rw[if_pos fF]at ae;cases ae
   show⟨bU,CI⟩
  rw[if_neg fF]at ae;by_cases iK:c="Tree"
  ·rw[if_pos iK]at ae;cases ae
   show⟨bT,F9⟩
  rw[if_neg iK]at ae;by_cases cO:c="Folding"
  ·rw[if_pos cO]at ae;cases ae
   show⟨aW,Aq⟩
  rw[if_neg cO]at ae;cases ae
 let eT:iA (cC w K (D_ 0)) "total" := λc a hc=>by
  let ae:(D_ 0) c=a_ a:=hc;dsimp only[clF]at ae;by_cases fF:c="Count"
  ·rw[if_pos fF]at ae;cases ae
   show⟨bU,Cm⟩
  rw[if_neg fF]at ae;by_cases iK:c="Tree"
  ·rw[if_pos iK]at ae;cases ae
   show⟨bT,CK⟩
  rw[if_neg iK]at ae;by_cases cO:c="Folding"
  ·rw[if_pos cO]at ae;cases ae
   show⟨aW,yY⟩
  rw[if_neg cO]at ae;cases ae
 let dU:iA (cC w K (D_ 0)) "tree" := λc a hc=>by
  let ae:(D_ 0) c=a_ a:=hc;dsimp only[clF]at ae;by_cases fF:c="Count"
  ·rw[if_pos fF]at ae;cases ae
   show⟨bU,CJ⟩
  rw[if_neg fF]at ae;by_cases iK:c="Tree"
  ·rw[if_pos iK]at ae;cases ae
   show⟨bT,Fb⟩
  rw[if_neg iK]at ae;by_cases cO:c="Folding"
  ·rw[if_pos cO]at ae;cases ae
   show⟨aW,Ar⟩
  rw[if_neg cO]at ae;cases ae
 refine⟨Xc "law" "law" (hV wC) (fM wC) (aJ wC) .none NZ JS O0 O2 Fe O1,λs v=>.of_eq rfl,λbase _ _=>?_⟩;let kJ:uC l.prog w K mg base (D_ 0):=oZ X G Lb (λ_ _ _ _ _ _ us hl=>wL us hl λ_ _=>rfl) λF=>IG hbn F;let C8:DD l.prog w K mg base (D_ 0):=oZ X G NX (λ_ _ _ _ _ _ us hl=>wL us hl λ_ _=>rfl) λF=>L4 hbn F;let F5:GH l.prog w K mg base (D_ 0):=oZ X G Ql (λ_ _ _ _ _ _ us hl=>wL us hl λ_ _=>rfl) λF=>NG hbn F C8;let IT:JN l.prog w K mg base (D_ 0):=oZ X G SV (λ_ _ _ _ _ _ us hl=>wL us hl λ_ _=>rfl) λF=>Q2 hbn F kJ;let F6:GI l.prog w K mg base (D_ 0):=oZ X G Qm (λ_ _ _ _ _ _ us hl=>Qd us hl λ_ _ _=>rfl) λF=>NJ hbn F;let sG:C4 l.prog w K mg base (D_ 0):=oZ X G Qn (λ_ _ _ _ _ _ us hl=>match us,hl with|[],_=>rfl) λF=>NK hbn F
 let F7:GK l.prog w K mg base (D_ 0):=oZ X G Qo (λ_ _ _ _ _ _ us hl=>wL us hl λ_ _=>rfl) λF=>NL hbn F;let fQ:L_ (D_ 0) 1 aI "told" ["self"] 1 cS:=sI Fd (λ_ _ _ _ _ _ us hl=>pD us hl λ_=>rfl) λF=>CF hbn F eT;let eI:L_ (D_ 0) 1 aK "kind_of" ["self","thing"] 2 bA:=sI Cp (λ_ _ _ _ _ _ us hl=>wL us hl λ_ _=>rfl) λF=>Ad hbn F kI ah cE;let eV:L_ (D_ 0) 2 aK "within" ["self","thing"] 2 cU:=sI CL (λ_ _ _ _ _ _ us hl=>wL us hl λ_ _=>rfl) λF=>C9 hbn F cT bT eI cE;let iI:L_ (D_ 0) 3 aD "hanging" ["self"] 1 cN:=sI wO (λ_ _ _ _ _ _ us hl=>pD us hl λ_=>rfl) λF=>uD hbn F cT bT eV kI ah dU;let rD:L_ (D_ 0) 1 aK "held" ["self","thing"] 2 fI:=sI Hb (λ_ _ _ _ _ _ us hl=>wL us hl λ_ _=>rfl) λF=>ES hbn F cE;let iJ:L_ (D_ 0) 3 aD "telling" ["self","thing","tellings"] 3 bI:=sI wQ (λ_ _ _ _ _ _ us hl=>Qd us hl λ_ _ _=>rfl) λF=>uE hbn F dE bU cT bT fQ rD eI eV bV dU;let lN:L_ (D_ 0) 4 aD "told" ["self"] 1 eD:=sI Cs (λ_ _ _ _ _ _ us hl=>pD us hl λ_=>rfl) λF=>Ae hbn F bE aW iI iJ kI ah;let jX:tMk l.prog w K mg base (D_ 0) 1 aK "__init__" ["self"] 1 eS:=SL Au Qj Qk (λ_ _ _ _ _ _ us hl=>pD us hl λ_=>rfl) λF=>yO hbn F fR cE;let pC:L_ (D_ 0) 1 aI "fill" ["self","content"] 2 iD:=sI Fc (λ_ _ _ _ _ _ us hl=>wL us hl λ_ _=>rfl) λF=>CG hbn F eT;let rE:L_ (D_ 0) 1 aK "fill" ["self","rows","lost"] 3 gK:=sI Ha (λ_ _ _ _ _ _ us hl=>Qd us hl λ_ _ _=>rfl) λF=>EU hbn F fR cE;let iU:tMk l.prog w K mg base (D_ 0) 1 aI "__init__" ["self"] 1 fP:=SL yZ NV NW (λ_ _ _ _ _ _ us hl=>pD us hl λ_=>rfl) λF=>wK hbn F eT;let yR:C5 l.prog w K mg base (D_ 0):=oZ X G Lc (λ_ _ _ _ _ _ us hl=>pD us hl λ_=>rfl) λF=>IH hbn F dE bU iU Ca;let fZ:L_ (D_ 0) 4 aD "add_leaf" ["self","thing","kind"] 3 cA:=sI uP (λ_ _ _ _ _ _ us hl=>Qd us hl λ_ _ _=>rfl) λF=>sJ hbn F yR bV;let cB:tMk l.prog w K mg base (D_ 0) 5 aD "__init__" ["self","base"] 2 bD:=SL uO IY IZ (λ_ _ _ _ _ _ us hl=>wL us hl λ_ _=>rfl) λF=>sL hbn F dE bU cT bT bE aW pC fZ jX rE EV bV dU;let yV:EO l.prog w K mg base (D_ 0):=oZ X G SX (λ_ _ _ _ _ _ us hl=>pD us hl λ_=>rfl) λF=>Q4 hbn F dE bU bE aW fQ cB lN iV;let EZ:GM l.prog w K mg base (D_ 0):=oZ X G Qp (λ_ _ _ _ _ _ us hl=>pD us hl λ_=>rfl) λF=>NN hbn F;let II:JO l.prog w K mg base (D_ 0):=oZ X G SY (λ_ _ _ _ _ _ us hl=>pD us hl λ_=>rfl) λF=>Q5 hbn F EZ;let iX:rB l.prog w K mg base (D_ 0):=oZ X G J1 (λ_ _ _ _ _ _ us hl=>pD us hl λ_=>rfl) λF=>GR hbn F II;let lP:L_ (D_ 0) 1 aD "hear" ["self","deed"] 2 dC:=sI Cr (λ_ _ _ _ _ _ us hl=>wL us hl λ_ _=>rfl) λF=>Ai hbn F;let jY:L_ (D_ 0) 1 aI "content" ["self"] 1 dI:=sI As (λ_ _ _ _ _ _ us hl=>pD us hl λ_=>rfl) λF=>yS hbn F eT;let fL:L_ (D_ 0) 2 aD "content_of" ["self","thing"] 2 bG:=sI rN (λ_ _ _ _ _ _ us hl=>wL us hl λ_ _=>rfl) λF=>pS hbn F dE bU jY bV;let rF:wF l.prog w K mg base (D_ 0):=oZ X G He (λ_ _ _ _ _ _ us hl=>pD us hl λ_=>rfl) λF=>F0 hbn F;let rH:L_ (D_ 0) 4 aK "rows" ["self"] 1 gM:=sI Hd (λ_ _ _ _ _ _ us hl=>pD us hl λ_=>rfl) λF=>F1 hbn F rF cE;let rG:L_ (D_ 0) 1 aK "lost" ["self"] 1 jI:=sI Hc (λ_ _ _ _ _ _ us hl=>pD us hl λ_=>rfl) λF=>F2 hbn F fR;let lO:L_ (D_ 0) 5 aD "base" ["self"] 1 eE:=sI Cq (λ_ _ _ _ _ _ us hl=>pD us hl λ_=>rfl) λF=>Al hbn F cT bT bE aW fL rG rH dU;let yW:ER l.prog w K mg base (D_ 0):=oZ X G SZ (λ_ _ _ _ _ _ us hl=>wL us hl λ_ _=>rfl) λF=>Q8 hbn F iX bE aW cB lO lP iV;let yU:C6 l.prog w K mg base (D_ 0):=oZ X G Ld (λ_ _ _ _ _ _ us hl=>pD us hl λ_=>rfl) λF=>IJ hbn F;let uM:zY l.prog w K mg base (D_ 0):=oZ X G J2 (λ_ _ _ _ _ _ us hl=>wL us hl λ_ _=>rfl) λF=>GY hbn F;let Ci:DE l.prog w K mg base (D_ 0):=oZ X G NY (λ_ _ _ _ _ _ us hl=>pD us hl λ_=>rfl) λF=>L8 hbn F yU uM;let uN:zZ l.prog w K mg base (D_ 0):=oZ X G J3 (λ_ _ _ _ _ _ us hl=>pD us hl λ_=>rfl) λF=>GZ hbn F iX Ci;let yX:C7 l.prog w K mg base (D_ 0):=oZ X G Le (λ_ _ _ _ _ _ us hl=>pD us hl λ_=>rfl) λF=>IM hbn F sG yV yW uN;refine(SQ (cl:=D_ 0) hbn (B0 (st:=wC) UG UH UI) kJ F5 IT F6 sG F7 yV yW yX).imp λvs H Q E hh=>?_;let⟨a,ns,rfl,hO,hS,hl,hq⟩:=hh;show S5 (C:=cC w K (D_ 0)) hO hS (main ns hl) hq
theorem walk{l:PySem.W.OpenLaw}{q:ve}{loose:Zw 0}{XP:(m_ 0)->t_->Prop}{YP:u_->t_->Prop}{d:DefRec}{K:Params->y0}(hn:l.most=a_ 63)(j9:d.params.defaults=[])
  (hY:∀(w:u_)(h:t_),YP w h->(K w.params).In h)
  (F:∀(w:u_)(mg:m_ 0)(fa:r_)(h:t_),(K w.params).In h->h.Ns WD mg->mg d.name=c_ fa->
   ∃fd:z6,(∀(s:q_)(u:qe),BindsTo s fd ⟨[u],[]⟩ [("_law_script",u)])/\∀base:t_,(K w.params).In base->base.Ns WD mg->aT l.prog w (K w.params) mg base CX0 9 fa fd ["_law_script"] (spL (K w.params))):
  PySem.W.WalkO q loose XP YP l.row.toRowW d [] (λf vs=>PySem.call f vs):=
 L2.walk_of (n:=63) (k:=9) (x:="_law_script") (CX:=λ_=>CX0) (sp:=λw=>spL (K w.params)) hn nofun j9 ⟨rfl,nofun,nofun⟩ hY F (λw H a ns hl hO hS=>⟨a,ns,rfl,hO,hS,hl,λ_=>rfl⟩) λ_ _ _ _ _ z=>z
end K61
open PySem PySem.W PyProof.Rows
set_option maxRecDepth 100000 in
set_option maxHeartbeats 0 in
inductive PySem.W.Fast:Prop|tw16846466101429818489|tw18418840753204318192|tw18105031449793984260|tw5430726484307352612|tw6530654428290770522|tw1161623644852295492|tw11704397517781625376|tw3278426869567235723|tw17945980827258395335|tw4845305797246149578|tw9609470776303894832|tw599096117072807703|tw10290363664538475945|tw1899850250393882024|tw5648780918696726899|tw14969192232785667368|tw14267056534802580010|tw614438943876984023|tw5313660917651351458|tw13155979997083226788|tw4508266417228795052|tw1948417743838144824|tw8436849508655546106|tw7878213723667784005|tw17836407161074637877|tw12292667651035363047|tw10809977618357134468|tw8580329317912806613|tw11982540438106043323|tw3352365971773749213|tw815337646766977217|tw5346662760399504868|tw2183910708996389399|tw7972323307592388850|tw5852423046977788220|tw12986209398457148926|tw3359622118090280924|tw1454856120126056192|tw5611034342519561097|tw5516743002627963679|tw11069144263196193671|tw11524697207893308647|tw1914307605159033274|tw17524743505902155195|tw769747668925904179|tw10411883427370935432|tw16102768319228768261|tw6278676040261112681|tw13745203056057202750|tw13349306180291231|tw4775634121212728903|tw2844381961342595892|tw12172186035296926407|tw7552700223711158843|tw17029553382048398040|tw518925279332805342|tw9318683569554446160|tw1518700317834216013|tw14542881129147658905|tw16546095059634512407|tw2091731404583470183|tw4837021211065053537|tw9154800859274070211|tw5506097413161806857|tw9118853781909004984|tw3038140021240149795|tw5328611936506124713|tw2057173719007859844|tw8510673103739132289|tw8950899650911818892|tw3258347674179169599|tw159248555292753524|tw8448365425956186873|tw10846760435869062906|tw5994900322956098528|tw16099916937411658357|tw13267690845576402674|tw7155104414411699412|tw11679751385336313498|tw12265002129479034698|tw15426912200757927878|tw558603733590243697|tw16468510707452571031|tw12238004049207011366|tw2709575664480691491|tw10884095317679748878|tw11485259195923529867|tw15443603019469755838|tw14093667062656400862|tw15518502121113732148|tw16498798665862638270|tw11910427396893043833|tw4704329970426883975|tw4553702426574342902|tw16082084534147850388|tw10869793286125139059|tw3513650075206074915|tw14238500430861101299|tw10247777635107545760|tw7657570434975472509|tw15968656382329679291|tw7465443077569932205|tw17148467924325340237|tw9255071440711142809|tw9086067122016893129|tw6573038746131693357|tw15528799451679254117|tw6900748029860683520|tw12425922566298990333|tw958171000594155794|tw5391052369340905841|tw11325541736016967037|tw6655915476874315627|tw9573045498971368242|tw8752854909788942576|tw6684726188186224591|tw16927109264807767397|tw18390275232912495623|tw15157423205881552800|tw17713715207754364872|tw13842261713076640553|tw4180728795526950205|tw8634149824706429794|tw572384107247520172|tw10285759315256575780|tw4063970875975765904|tw18242149693520105349|tw15145163621007127216|tw12393441614820076921|tw4953035629623795857|tw5748806760404317452|tw16084424225973831904|tw8754152412956519385|tw15023557150735504532|tw6976144720275227952|tw9215590059960489692|tw14601831982974699244|tw3765424916435876545|tw16421323516014456303|tw16550869572517019749|tw13556149035295141713|tw4269447809341174127|tw8349630498887805609|tw11367187650901848528|tw13770710116596348592|tw3372747978892504305|tw18254387419803840251|tw9337570043371267910|tw16405953507970685635|tw16312659944758657152|tw14430612687357709829|tw11543839989613819226|tw17063448214954087016|tw5518296862277245037|tw7008981920820236023|tw16692944437358563518|tw13867836500224370216|tw6060029305610502439|tw15527874381601966390|tw15171283842462839893|tw5573808885293588441|tw8074457881755105164|tw4610846409225636858|tw13801452990461199119|tw9134616212621754194|tw3723835244800929077|tw2439927575239877822|tw8373859243309368193|tw9197617859702483000|tw18037024299726077665|tw4393894840426137837|tw10795491217021323926|tw17539002214786820205|tw4441619755536150082|tw11255421065691280446|tw11446960375410339846|tw15709783897510436878|tw4502768669553304106|tw5504002027250040432|tw11464785109925414210|tw5742360513747388893|tw10355146612973241480|tw3764843162235404518|tw10289960526493707208|tw18054340448969788798|tw9241230585705843284|tw11429013727245064043|tw9272766711790354918|tw11147554777573944076|tw2533165044531644866|tw13899182248854024706|tw7404516680344276760|tw12930290487091078431|tw17101785693257251497|tw6543419185530986904|tw13723423575050061427|tw9219651830166397852|tw14726271479174336286|tw11018534288354897714|tw16023070438254799722|tw13771317691746754015|tw14322305965814565827|tw11407465627315804850|tw2681553872187865838|tw9269026932472949385|tw2333134214627498471|tw2679441392005134150|tw14861273174763141211|tw8644588705919204692|tw10262644375469774738|tw9973711395541798044|tw14496897588791032207|tw7276009683483449451|tw554801247232844632|tw4999630642354258457|tw13099150537718739296|tw16220398562416678992|tw12781355383249415760|tw11458964427860957645|tw2504293824123203385|tw75872602082002405|tw12688578834341929913|tw14703194100532827610|tw7805715804265637234|tw8513188330309632235|tw11795869833010327231|tw11591126008010230048|tw17926764483763069405|tw3906432007776300569|tw16938381942046406427|tw4443763334245388434|tw8391577211530160684|tw1113597848411452335|tw6288026578820059085|tw5758395837597738939|tw18248936006637279413|tw4630625561797658117|tw15268973700469247106|tw1232328938818058972|tw9255115584312153483|tw18022243169882014651|tw7800851367292583709|tw698752370627605640|tw4535530212757142750|tw761208081288897668|tw7092394294454767696|tw12290971673350036900|tw9407676924022930992|tw11324011116379032001|tw5007998184348726175|tw13238448862927473295|tw481146855127853139|tw7087882761001875604
end
theorem PySem.Challenge.cw_copymeet_k61_upon_nothing_holds : PySem.Challenge.rw_copymeet_k61_upon_nothing.Holds := by
 w_on; o_law; k_head; (case hw=>w_witness2)
 k_fill
 refine K61.walk (l:=PySem.Challenge.rw_copymeet_k61_upon_nothing) rfl rfl (fun w h Y=>PySem.W.kIn_of Y) ?F
 case F=>
  intro w mg fa h KX G hmg
  have hbn:∀ x∈K61.bsL,mg x=none:=fun x hx=>by
   iterate 8(rcases List.mem_cons.mp hx with rfl|hx;·exact PySem.W.mg_none_of KX G (by k_is))
   cases hx
  refine' K61.all_mk KX G hmg hbn ?h0 ?h1 ?h2 ?h3 ?h4 ?h5 ?h6 ?h7 ?h8 ?h9 ?h10 ?h11 ?h12 ?h13 ?h14 ?h15 ?h16 ?h17 ?h18 ?h19 ?h20 ?h21 ?h22 ?h23 ?h24 ?h25 ?h26 ?h27 ?h28 ?h29 ?h30 ?h31 ?h32 ?h33 ?h34 ?h35 ?h36 ?h37 ?h38 ?h39 ?h40 ?h41 ?h42 ?h43 ?h44 ?h45 ?h46 ?h47 ?h48 ?h49 ?h50 ?h51 ?h52 ?h53 ?h54 ?h55 ?h56 ?h57 ?h58 ?h59 ?h60 ?h61 ?h62 ?h63 ?h64 ?h65 ?h66 ?h67 ?h68 ?h69 ?h70 ?h71 ?h72 ?h73 ?h74 ?h75 ?h76 ?h77 ?h78 ?h79 ?h80 ?h81
  case h0|h1|h2|h3|h4|h5|h6|h7|h8|h9|h10|h11|h12|h13|h14|h15|h16|h17|h18|h19|h20|h21|h22|h23|h24|h25|h26|h27|h28|h29|h30|h31|h32|h33|h34|h35=>k_is
  case h36|h37|h38|h39|h40|h41|h42|h43|h44|h45|h46|h47|h48|h49|h50|h51|h52|h53|h54=>exact qb_ 0
  case h55|h56|h57|h58|h59|h60|h61|h62|h63|h64|h65|h66|h67|h68|h69|h70|h71|h72|h73=>exact qc_ 0
  case h74|h75|h76|h77|h78|h79=>k_is
  (case h80=>exact (.cons ⟨_,rfl⟩ (.cons ⟨_,rfl⟩ .nil)))
  (case h81=>decide +kernel)
