import PyProof.Rows.All
import Wide.All
import OpenK.AllK
import Wide.FinOn
import Lean
import PyProof.EqAt
import PyProof.EqKinds
import PyProof.TupleCall
import PyProof.NeKinds
import KE.KDictOf
import PyProof.AttrMissHeap
import PyProof.WalksMore
import PyProof.MeetsDict
import KE.KDictList
import KE.KRevIter
import PyProof.DictItemsLoops
import PyProof.DictWalks
import KE.KSortTup
import KE.KDictSum
import PyProof.SumAny
import PyProof.Conv_int_bool
import PyProof.Conv_int
import KE.KRevSl
import PyProof.MeetsStr
import PyProof.StrCalls3
import PyProof.Rows.TupDisplay
import PyProof.ZipIter
import PyProof.Draws
import PyProof.EnumMake
import PySem.Challenge.RW_copymeet_k62_things_as_a_tree_has_them
set_option compiler.extract_closed false
open PySem renaming wpAny_bind->xr,wpAny_pure->xw,sizeLine->yo,FuncData->yw,starEach->yz,compareOp->zc,wpAny_newObj_type->zd,wpAny_call_entry->zm,Spec->zo,sizeLine_eq->zr,wpAny_typeNameOfWhole_itemiter->zx,mainGlobals->z6,wpAny_callSpecial?_slot->z9,wpAny_holding->y0c,wpAny_typeNameOf_itemiter->y0f,wpAny_dictEntries->y0l,sysModules->y0o,cellsFrom->y0s,wpAny_dictEpoch->y0t,wpAny_Call_Name_kw->y0y,DictEntry->y0A,wpAny_specialOf->y0M,binaryOp->y0Q,wpAny_mono->y0R,wpAny_isOneOf_itemiter->y07,wpAny_setField->y1e,wpAny_typeNameOfWhole_valiter->y1p,wpAny_typeNameOfWhole_keyiter->y1q,foldedSetIterable->y1y,wpAny_field->y1D,assignEach->y1I,bootBuiltins->y1J,tupleKind_room_in1->y1K,wpAny_attempt->y1N,slot_dict_contains->y1O,wpAny_fieldsOf->y1R,firstArgMember->y1S,wpAny_passesOwn->y1T,wpAny_truthy_bool->y1U,wpAny_typeNameOf_valiter->y1W,wpAny_typeNameOf_keyiter->y1Z,call_meetsIn->y11,attributeBase->y16,mem_of_lookup->y17,wpAny_isInstance->y2b,NameKind->y2g,wpAny_forIn_list->y2A,codeAny_mono->y2C
open List renaming getElem?_eq_some_iff->xt,mem_cons_of_mem->yd,mem_cons_self->ye,mem_append_right->yf,length_map->yh,prefix_rfl->yk,size_toArray->yn,map_cons->yq,mem_cons->yr,getElem?_map->yy,mem_singleton->y0,all_eq_true->y1,mem_map->y6,lookup_cons->y8,range->za,mem_append->zf,mem_of_getElem?->zi,getElem_mem->zp,length_cons->zt,getElem?_append_left->zw,prefix_append->zy,pairwise_cons->z0,map_map->z7,mem_append_left->z8,cons_lt_cons_iff->y0e,getElem?_set_self->y0g,getElem?_set_ne->y0i,length_set->y0k,pairwise_map->y0v,length_append->y0z,map_congr_left->y0B,ext_getElem?->y0D,getElem?_append_right->y0E,getD_eq_getElem?_getD->y0F,getElem?_eq_none->y0U,getElem?_cons_succ->y0X,map_append->y02,length_take->y03,nodup_append->y1c,getElem?_zip_eq_some->y1d,append_nil->y1f,nodup_cons->y1g,find?_cons->y1h,all_cons->y1r,pairwise_singleton->y1t,length_range->y1A,mem_iff_getElem?->y1L,getElem?_eq_getElem->y10,toArray->y12,filterMap_cons->y14,any_cons->y18,not_lt->y2a,take_length->y2c,replicate->y2d,zip_cons_cons->y2h,length->y2i,length_nil->y2j,pairwise_reverse->y2o,append_assoc->y2r,reverse_perm->y2s,lookup->y2B
open PySem.W renaming findIn->ya,Frag->yb,keepIn->Io,plainGet->y0q,kia_one->y0r,hasDictIn->y0u,plainOver->y0C,makesIn->y0L,emptyDict->y0S,mg_of->y0Y,fnOf->y04,nsIn->y05,instObj->y1B,codeIn->y2w,katRev->y2y
open PySem.Heap renaming get?_push_of_some->yc,lt_size->yj,get?_push_size->ym,get?_update_self->y0a,get?_update_other->y0J,SameBut->y1w,size_push->y1x,get?_push_ne->y1z,size_update->y2z
open Nat renaming le_refl->yg,ne_of_lt->yt,lt_of_lt_of_le->y3,zero_le->y9,le_trans->ze,ne_of_gt->y0x,le_of_lt->y0G,lt_irrefl->y0P,lt_or_eq_of_le->y00,le_succ->y09,not_lt_zero->y1E
open PySem.Str renaming ofString->yi,length->y2e,empty->y2D
open Bool renaming false_ne_true->yl,false_eq_true->zb,and_eq_true->zg,eq_iff_iff->y1G,beq_eq_decide_eq->y2p
open PySem.Value renaming none->yp,ref->y4,type->y1H
open Option.some renaming inj->yx
open PySem.Obj renaming mapSeq->zh,mapFields->y0p,data_mapFields->y01,isFreed_of_fields->y1i
open PySem.F renaming slot_dict_itemiterator_next->zj,slot_dict_get->y0n,slot_dict_valueiterator_next->y0H,entry_dict_get->y0K,plain_extend_loop->y0O,slot_dict_keyiterator_next->y0W,args_dict_itemiterator_next_1->y1b,entry_dict_itemiterator_next->y1k,slot_list_append->y1m,type_list_append->y1n,plainAttrs_dict->y1u,plainAttrs_list->y1v,args_dict_get_2->y19,slot_NoneType_hash->y2u
open PySem.Heap.SameBut renaming update->zk
open PySem.Builtin.Dict_items renaming ownsTuple->zl,pairFromOwner->y06,ownedTupleIsFree->y1F
open Option renaming map_eq_some_iff->zq,isSome_iff_exists->y1l,isSome_map->y2q,isSome_some->y2E,map_some->y2G
open PySem.Paired renaming length->y0b
open PySem.NameKind renaming free->y0d,cell->y2F
open Array renaming getElem?_eq_none->y0h,getElem?_eq_getElem->y0N,getElem?_toList->y0V,length_toList->y15
open PyProof.Rows renaming slot_tuple_getitem->y0j,callWith_type1->y1C,listUpdate_at->y1M,mirror_perm->y2m,get?_update_seq->y2n
open PySem.Builtin.List renaming listExtendWith->y0m,listSameRef->y1X
open PySem.Builtin.Tuple renaming tupleHashOf->y0w,tupleExact->y1V,tupleItemsOf->y2t
open False renaming elim->y0I
open PySem.Txt renaming slice->y0T
open Classical renaming propDecidable->y0Z
open True renaming intro->y08
open Int renaming toNat_natCast->y1a
open PySem.Builtin.Dict renaming showsAll->y1j
open Ne renaming symm->y1o
open Prod renaming fst->y1s
open Sum renaming inr->y1P
open PySem.Builtin.Slice renaming slicePlaces->y1Q,sliceAdjust->y2x
open List.Perm renaming eq_of_pairwise->y1Y
open List.Nodup renaming length_le_of_subset->y13
open PySem.Calls renaming callWith_builtin->y2f
open PySem.Builtin.Str renaming strSliceIndices->y2k,glued->y2I
open Array.Perm renaming refl->y2l
open PySem.Around renaming under_plainId->y2v
open List.Pairwise renaming nil->y2H
open PySem PySem.Spec PyProof.Rows
open Option renaming some->a_,none->b_
open PySem renaming Value->r_,Shared->s_,Addr->td,Around->u_,Heap->v_,World->w4,Program->w_,Expr->x_,Stmt->y_
local macro_rules|`(qb_ 0)=>`(⟨_,by k_is,by k_is,_,_,_,_,_,_,_,_,_,by k_is,by k_is,by k_is⟩)
local macro_rules|`(qc_ 0)=>`(⟨_,by k_is,_,_,_,_,_,_,_,_,_,by k_is,by k_is,by k_is⟩)
local macro_rules|`(tactic|omega)=>`(tactic|lia)
local macro_rules|`(i_ 0)=>`(⟨rfl,rfl,rfl,by decide +kernel,rfl,by decide +kernel,by decide +kernel⟩)
local macro_rules|`(c_ $x)=>`(some (.ref $x))
local macro_rules|`(d_ $x)=>`(some (.int $x))
local macro_rules|`(g_ $x)=>`(PySem.model ($x).prog ($x).w)
local macro_rules|`(e_ $x)=>`(($x).heap.objs.size)
local macro_rules|`(f_ 0)=>`(PySem.Value->PySem.Shared->Prop)
local macro_rules|`(gV 0)=>`(List (PySem.Addr×PySem.Obj))
local macro_rules|`(jn $x)=>`($x->PySem.Shared->Prop)
local macro_rules|`(l_ $p $w $x*)=>`(PySem.wpAny (PySem.model $p $w) $x*)
local macro_rules|`(k_ $x)=>`(by simpa using $x)
local macro_rules|`(⋯)=>`(by omega)
local macro_rules|`(nofun)=>`(by decide)
local macro_rules|`(m_ 0)=>`(Array (Option PySem.Value))
local macro_rules|`(n_ 0)=>`(PySem.Str->Option PySem.Value)
open Lean Parser Tactic in
def o_:Nat->Syntax->MacroM (TSyntax `rcasesPat)
|n+1,s=>match s with
 |`($x:ident)=>`(rcasesPat|$x:ident)
 |`(⟨$xs,*⟩)=>do
  let ys<-xs.getElems.mapM λx=>do`(rcasesPatLo|$(<-o_ n x):rcasesPat)
  `(rcasesPat|⟨$ys,*⟩)
 |_=>`(rcasesPat|_)
|_,_=>Macro.throwUnsupported
open Lean Parser Tactic in
local macro_rules|`(tactic|let $p:term:=$e)=>do let q<-`(rcasesPatMed|$(<-o_ 9 p):rcasesPat);`(tactic|obtain $q:rcasesPatMed:=$e)
local macro_rules|`(z_ $x)=>`(List $x)
local macro_rules|`(A_ $x)=>`(Option $x)
set_option bootstrap.genMatcherCode false
set_option Elab.async false
set_option linter.all false
set_option maxRecDepth 1000000
set_option maxHeartbeats 4000000
noncomputable section
set_option genSizeOf false
local macro_rules|`(tactic|let $x:ident:=$e)=>`(tactic|have $x:ident:=$e)
local macro_rules|`(tactic|let $x:ident : $t :=$e)=>`(tactic|have $x:ident : $t :=$e)
local macro_rules|`(tactic|show $e)=>`(tactic|exact $e)
set_option hygiene false
local macro_rules|`(h_ 0)=>`(clF aG aF aR aH aI aN aK aC)
local macro_rules|`(j_ $x*)=>`(Inv X P1 σ $x*)
local macro_rules|`(q_ $x*)=>`(bD P w K mg base CX0 $x*)
local macro_rules|`(t_ $x*)=>`(tMt P w K mg base cl $x*)
local macro_rules|`(B_ 0)=>`(cC w K cl)
local macro_rules|`(C_ $x*)=>`(l_ prog w A $x*)
local macro_rules|`(D_ $x*)=>`(aE vAt $x*)
local macro_rules|`(E_ $x*)=>`(RV C φ H $x*)
local macro_rules|`(F_ $x*)=>`(wpAny _ _ $x*)
local macro_rules|`(G_ $x*)=>`(RVs C φ H $x*)
local macro_rules|`(H_ $x*)=>`(Ext.app _ $x*)
local macro_rules|`(I_ $x*)=>`(SE C k X $x*)
local macro_rules|`(J_ $x*)=>`(tMt l.prog w K mg base $x*)
local macro_rules|`(K_ $x*)=>`(RH C φ H $x*)
local macro_rules|`(L_ $x*)=>`(bD X.prog X.w X.K X.mg X.base $x*)
local macro_rules|`(M_ $x*)=>`(evT lt $x*)
local macro_rules|`(N_ $x*)=>`(bD X.prog X.w C.K X.mg X.base CX0 j $x*)
local macro_rules|`(O_ 0)=>`(FS h a0 l lt lm lf ll b n M L)
local macro_rules|`(P2 0)=>`(s.heap.get? b)
local macro_rules|`(P_ $x*)=>`(post C φ H $x*)
local macro_rules|`(Q_ $x*)=>`(j_ H $x*)
local macro_rules|`(R_ $x*)=>`(po.val rh $x*)
local macro_rules|`(S1 $x*)=>`(Ext h $x*)
local macro_rules|`(S_ 0)=>`(X.env.cells.lookup x)
local macro_rules|`(T_ 0)=>`(bK h lt lm lf M L)
local macro_rules|`(U_ 0)=>`(re.mono p1 t1)
local macro_rules|`(V_ 0)=>`(if_neg nofun)
local macro_rules|`(W_ $x*)=>`(X.comp sc N $x*)
local macro_rules|`(X_ 0)=>`(D.depths ds)
local macro_rules|`(Y_ $x*)=>`(pV X.env.cells sc.names $x*)
local macro_rules|`(Z_ $x*)=>`(upd H $x*)
local macro_rules|`(q0a $x*)=>`(s.heap.update a $x*)
local macro_rules|`(q0b $x*)=>`(HT.sIx xs.length $x*)
local macro_rules|`(q0c 0)=>`(X.env.scope.names.lookup x)
local macro_rules|`(q0d 0)=>`(eval e X.env)
local macro_rules|`(q0e 0)=>`(yz es X.env)
local macro_rules|`(q0f $x*)=>`(sIx items.size $x*)
local macro_rules|`(q0g $x*)=>`(EP X P1 σ $x*)
local macro_rules|`(q0h $x*)=>`(rh.at' n a _ ha $x*)
local macro_rules|`(q0i $x*)=>`(q_ 1 f fd $x*)
local macro_rules|`(q0j $x*)=>`(Cxt C k $x*)
local macro_rules|`(q0k 0)=>`(if_pos rfl)
local macro_rules|`(q0l 0)=>`(Array r_)
local macro_rules|`(q0m $x*)=>`(backTo pos $x*)
local macro_rules|`(q0n $x*)=>`(heard M L nm $x*)
local macro_rules|`(q0o $x*)=>`(OpS C k X $x*)
local macro_rules|`(q0p $x*)=>`(fnd M $x*)
local macro_rules|`(q0q 0)=>`(RE C φ H δ σ)
local macro_rules|`(q0r $x*)=>`(s.heap.update it $x*)
local macro_rules|`(q0s $x*)=>`(katRev b $x*)
local macro_rules|`(q0t $x*)=>`(h P1 s σ H $x*)
local macro_rules|`(q0u $x*)=>`(RH C φ' H' $x*)
local macro_rules|`(q0v $x*)=>`(tMk P w K mg base cl $x*)
local macro_rules|`(q0w $x*)=>`(tMk l.prog w K mg base $x*)
local macro_rules|`(q0x $x*)=>`(fD X.prog X.w $x*)
local macro_rules|`(q0y 0)=>`(s.heap.get? dc)
local macro_rules|`(q0z 0)=>`(RH C φ1 H1 h1)
local macro_rules|`(q0A 0)=>`(sc.names.lookup x)
local macro_rules|`(q0B $x*)=>`(LA CX P w K mg base N qual scope f $x*)
local macro_rules|`(q0C $x*)=>`(OpR X $x*)
local macro_rules|`(q0D 0)=>`(h'.get? b)
local macro_rules|`(q0E 0)=>`(vP I c.K c.w rh ha ht)
local macro_rules|`(q0F $x*)=>`(Fun K $x*)
local macro_rules|`(q0G 0)=>`(Array Nat)
local macro_rules|`(q0H $x*)=>`(bB kvs $x*)
local macro_rules|`(q0I $x*)=>`(Cls K $x*)
local macro_rules|`(q0J $x*)=>`(pa' p $x*)
local macro_rules|`(q0K $x*)=>`(Binds X.K fd ps $x*)
local macro_rules|`(q0L $x*)=>`(aE vEq $x*)
local macro_rules|`(q0M $x*)=>`(fr _ _ $x*)
local macro_rules|`(q0N 0)=>`(nomatch z)
local macro_rules|`(q0O 0)=>`(ym _ rfl)
local macro_rules|`(q0P 0)=>`(DecidableEq κ)
local macro_rules|`(q0Q $x*)=>`(kas_asc p $x*)
local macro_rules|`(q0R 0)=>`(vs.getD i yp)
local macro_rules|`(q0S 0)=>`(W_ C fp s₀ H₀)
local macro_rules|`(q0T $x*)=>`(Def K mg $x*)
local macro_rules|`(q0U $x*)=>`(kas_place p k $x*)
local macro_rules|`(q0V 0)=>`(RKd C φ H kvs ks)
local macro_rules|`(q0W $x*)=>`(iT b vs.length $x*)
local macro_rules|`(q0X $x*)=>`(k _ _ $x*)
local macro_rules|`(q0Y $x*)=>`(envOfC qual scope $x*)
local macro_rules|`(q0Z $x*)=>`(RKv C φ H $x*)
local macro_rules|`(q0_ $x*)=>`(Inv X P1 σ' H' $x*)
local macro_rules|`(q1a $x*)=>`(aX bG aW $x*)
local macro_rules|`(q1b 0)=>`(c_ h.length)
local macro_rules|`(q1c $x*)=>`(SqT K H $x*)
local macro_rules|`(q1d 0)=>`(os.take q)
local macro_rules|`(q1e $x*)=>`(RelV x $x*)
local macro_rules|`(q1f $x*)=>`(y11 y0n dd.typeIs y0K $x*)
local macro_rules|`(q1g $x*)=>`(aE fF $x*)
local macro_rules|`(q1h $x*)=>`(Kept lm lf h $x*)
local macro_rules|`(q1i 0)=>`(q0f items.size hi)
local macro_rules|`(q1j $x*)=>`(bK h' lt lm lf $x*)
local macro_rules|`(q1k $x*)=>`(ya K $x*)
local macro_rules|`(q1l $x*)=>`(HOk P w H $x*)
local macro_rules|`(q1m 0)=>`(Array y0A)
local macro_rules|`(q1n $x*)=>`(isD X.K H $x*)
local macro_rules|`(q1o $x*)=>`(kas_rev p $x*)
local macro_rules|`(q1p 0)=>`(kas_descPart n nrem p)
local macro_rules|`(q1q $x*)=>`(l_ prog w A.in1 $x*)
local macro_rules|`(q1r $x*)=>`(HR s.heap $x*)
local macro_rules|`(q1s 0)=>`(ns.map PV.int)
local macro_rules|`(q1t 0)=>`(xs.map PV.int)
local macro_rules|`(q1u $x*)=>`(FS h' a0 l lt lm lf ll b $x*)
local macro_rules|`(q1v 0)=>`(I.tok _)
local macro_rules|`(q1w 0)=>`(ha P1 s σ H _ I h)
local macro_rules|`(q1x 0)=>`(ns.map V.int)
local macro_rules|`(q1y $x*)=>`(SqL K H $x*)
local macro_rules|`(tactic|rfl')=>`(tactic|refine now ?_)
local macro_rules|`(def $i:declId $s:optDeclSig $v:declVal)=>`(noncomputable def $i:declId $s:optDeclSig $v:declVal)
namespace L2
abbrev Key:=Sum Int Str
def Ct:Key->r_->Bool
 |.inl k,v=>Value.isInt k v
 |.inr x,v=>Value.isStrOf x v
def VX(w:w4):Key->Int
 |.inl k=>hashInt k
 |.inr x=>hashStr w x
theorem dU:∀{k:Key}{v:r_},Ct k v=true->(∃i t,k=Sum.inl i/\v=Value.int i t)\/(∃x t,k=y1P x/\v=Value.str x t)
 |.inl i,v,h=>by let⟨t,e⟩:=Value.isInt_shape (k:=i) (v:=v) h;show .inl ⟨i,t,rfl,e⟩
 |.inr x,v,h=>by let⟨t,e⟩:=Value.isStrOf_shape (x:=x) (v:=v) h;show .inr ⟨x,t,rfl,e⟩
theorem O0(i:Int)(t:Tok):Ct (.inl i) (.int i t)=true:=by simp[Ct,Value.isInt]
theorem O1(x:Str)(t:Tok):Ct (.inr x) (.str x t)=true:=by simp[Ct,Value.isStrOf]
theorem VY(a b:Int):decide ((Sum.inl a:Key)=Sum.inl b)=(a == b):=by
 by_cases e:a=b
 ·subst e;simp
 ·let h:¬ (Sum.inl a:Key)=Sum.inl b:=λq=>e (Sum.inl.inj q);rw[decide_eq_false h];show(beq_eq_false_iff_ne.mpr e).symm
theorem VZ(a b:Str):decide ((y1P a:Key)=y1P b)=decide (a=b):=by
 by_cases e:a=b
 ·subst e;simp
 ·let h:¬ (y1P a:Key)=y1P b:=λq=>e (Sum.inr.inj q);rw[decide_eq_false h,decide_eq_false e]
theorem W0(a:Int)(b:Str):decide ((Sum.inl a:Key)=y1P b)=false:=decide_eq_false (λq=>nomatch q)
theorem W1(a:Str)(b:Int):decide ((y1P a:Key)=Sum.inl b)=false:=decide_eq_false (λq=>nomatch q)
def cS(prog:w_)(w:w4):PySem.KeyKind prog w Key where
 is:=Ct
 hash:=VX w
 inj:=λv a b ha hb=>by
  rcases dU ha with⟨i,t,rfl,rfl⟩|⟨x,t,rfl,rfl⟩
  ·rcases dU hb with⟨j,u,rfl,e⟩|⟨y,u,rfl,e⟩
   ·injection e with e1 _;rw[e1]
   ·show nomatch e
  ·rcases dU hb with⟨j,u,rfl,e⟩|⟨y,u,rfl,e⟩
   ·show nomatch e
   ·injection e with e1 _;rw[e1]
 byValue:=λk v h=>by rcases dU h with⟨i,t,rfl,rfl⟩|⟨x,t,rfl,rfl⟩ <;> rfl
 pyHash:=λhv h=>by
  rcases dU hv with⟨i,t,rfl,rfl⟩|⟨x,t,rfl,rfl⟩
  ·show wpAny_pyHash_int h
  ·show wpAny_pyHash_str h
 eqBool:=λhu hv h=>by
  rcases dU hu with⟨i,t,rfl,rfl⟩|⟨x,t,rfl,rfl⟩
  ·rcases dU hv with⟨j,u,rfl,rfl⟩|⟨y,u,rfl,rfl⟩
   ·rw[VY]at h;show wpAny_eqBool_int h
   ·rw[W0]at h;show SeqAt.EqAt.int_str i t y u _ _ _ _ h
  ·rcases dU hv with⟨j,u,rfl,rfl⟩|⟨y,u,rfl,rfl⟩
   ·rw[W1]at h;show SeqAt.EqAt.str_int x t j u _ _ _ _ h
   ·rw[VZ]at h;show wpAny_eqBool_str h
 «strs»:=λk x t v h=>by
  rcases dU h with⟨i,u,rfl,e⟩|⟨y,u,rfl,e⟩
  ·show nomatch e
  ·injection e with e1 _;subst e1;cases v <;> rfl
theorem Jt(prog:w_)(w:w4)(i:Int)(t:Tok):(cS prog w).is (.inl i) (.int i t)=true:=O0 i t
theorem Cu(prog:w_)(w:w4)(x:Str)(t:Tok):(cS prog w).is (.inr x) (.str x t)=true:=O1 x t
inductive V where
 |non|bl (b:Bool)|int (i:Int)|str (x:Str)|byt (b:Array UInt8)|flt (b:UInt64)|ref (a:Addr)|ty (n:String)
 deriving DecidableEq
def RelV:V->r_->Prop
 |.non,u=>u=yp
 |.bl b,u=>u=Value.bool b
 |.int i,u=>∃t,u=Value.int i t
 |.str x,u=>∃t,u=Value.str x t
 |.byt b,u=>∃t,u=Value.bytes b t
 |.flt b,u=>∃t,u=Value.float b t
 |.ref a,u=>u=y4 a
 |.ty n,u=>u=y1H n
abbrev bH:z_ V->z_ r_->Prop:=Paired RelV
variable{us:z_ r_}
theorem bH.length{xs:z_ V}(r:bH xs us):xs.length=us.length:=y0b r
theorem bH.get:∀{xs:z_ V}{us:z_ r_}{i:Nat}{x:V},bH xs us->xs[i]?=a_ x->∃u,us[i]?=a_ u/\q1e u
 |_,_,_,_,.nil,e=>by simp at e
 |_,_,0,_,.cons r _,e=>by simp at e;subst e;show⟨_,rfl,r⟩
 |_,_,i+1,x,.cons _ t,e=>by
  let⟨u,h1,h2⟩:=bH.get (i:=i) (x:=x) t (k_ e);show⟨u,k_ h1,h2⟩
variable{u:r_}
theorem bH.set{x:V}(r:q1e u):∀{xs:z_ V}{us:z_ r_}(i:Nat),bH xs us->bH (xs.set i x) (us.set i u)
 |_,_,_,.nil=>.nil
 |_,_,0,.cons _ t=>.cons r t
 |_,_,i+1,.cons q t=>.cons q (bH.set r i t)
theorem bH.append:∀{xs ys:z_ V}{us ws:z_ r_},bH xs us->bH ys ws->bH (xs++ys) (us++ws)
 |_,_,_,_,.nil,s=>s
 |_,_,_,_,.cons r t,s=>.cons r (bH.append t s)
theorem bH.take:∀{xs:z_ V}{us:z_ r_}(n:Nat),bH xs us->bH (xs.take n) (us.take n)
 |_,_,0,_=>.nil
 |_,_,_+1,.nil=>.nil
 |_,_,n+1,.cons r t=>.cons r (bH.take n t)
theorem bH.drop:∀{xs:z_ V}{us:z_ r_}(n:Nat),bH xs us->bH (xs.drop n) (us.drop n)
 |_,_,0,r=>r
 |_,_,_+1,.nil=>.nil
 |_,_,n+1,.cons _ t=>bH.drop n t
def vB:A_ V->A_ r_->Prop
 |some v,a_ u=>RelV v u
 |none,b_=>True
 |_,_=>False
def KV{κ:Type}:z_ (κ×V)->z_ (κ×r_)->Prop:=Paired λ(p:κ×V)(q:κ×r_)=>p.1=q.1/\RelV p.2 q.2
def kV:Key->V
 |.inl i=>.int i
 |.inr x=>.str x
inductive HO where
 /-- a list -/
 |lst (xs:z_ V)
 /-- a tuple (never changes) -/
 |tup (xs:z_ V)
 /-- a dict whose keys are ints and texts;one whose keys are tuples of ints and texts (the empty one is both) -/
 |dK (kvs:z_ (Key×V))|dT (kvs:z_ (z_ Key×V))
 /-- a set of ints: its members,its size -/
 |set (S:Int->Bool) (n:Nat)
 /-- an instance of the class at C,its dict at dx,its attributes -/
 |ins (C dx:Addr) (fs:z_ (Str×V))
 /-- the dict of the instance at x -/
 |own (x:Addr)
 /-- the dict of an exception -/
 |xd (fs:z_ (Str×V))
 /-- a bound method,f of x -/
 |met (f x:Addr)
 /-- a range object lo,lo+1,.. below hi -/
 |rng (lo hi:Int)
 /-- a thing that is known to the object (the script;a dict while a loop walks it): read,never written while it is so -/
 |frz (o:Obj) (u:HO)
 /-- a code object's table -/
 |tbl (ps:Array Value)
 /-- any other thing,by what is true of its one object (a def of one's own: SetO a S n:=HO.ext λh=>..) -/
 |ext (φ:Heap->Prop)
abbrev Hp:=td->A_ HO
def upd(H:Hp)(a:td)(o:HO):Hp:=λb=>if b=a then a_ o else H b
variable{H:Hp}{a:td}
theorem bP{o:HO}:Z_ a o a=a_ o:=by unfold upd;rw[q0k 0]
theorem bA{b:td}{o:HO}(h:b≠a):Z_ a o b=H b:=by unfold upd;rw[if_neg h]
theorem Yf{b:td}{o u:HO}(h:H a=a_ o)(h':H b=a_ u)(d:o≠u):a≠b:=by intro e;subst e;rw[h]at h';show d (yx h')
theorem iZ{b:td}{o:HO}(h:H a=a_ o)(h':H b=b_):a≠b:=by intro e;subst e;rw[h]at h';cases h'
def Bl(h:v_)(a:td)(items:q0l 0):Prop:=∃o,h.get? a=a_ o/\o.cls=.type "tuple" /\ (∃n,o.data=.seq items n)/\o.dict=b_
variable{items:q0l 0}
theorem Bl.is{h:v_}(x:Bl h a items):PyProof.Rows.IsTup h a items:=let ⟨o,h1,h2,h3,_⟩:=x;⟨o,h1,h2,h3⟩
theorem Bl.lt{h:v_}(x:Bl h a items):a<h.objs.size:=let ⟨_,h1,_⟩:=x;yj h1
theorem Bl.new(h:v_)(items:q0l 0):Bl (h.push {cls:=.type "tuple",data:=.seq items 0}) h.objs.size items:=⟨_,q0O 0,rfl,⟨_,rfl⟩,rfl⟩
section
variable(P:w_)(w:w4)
def fD(H:Hp)(h:v_)(a:td):HO->Prop
 |.lst xs=>xs.length<=yo/\∃(its:z_ r_)(n:Nat),bH xs its/\h.get? a=a_ {cls:=.type "list",data:=.seq its.toArray n}
 |.tup xs=>xs.length<=yo/\∃its:z_ r_,bH xs its/\Bl h a its.toArray
 |.dK kvs=>kvs.length<=yo/\(a == y0o)=false/\∃vs,KV kvs vs/\h.DictOf (cS P w) a vs
 | .dT kvs=>kvs.length<=yo/\(a == y0o)=false/\∃ xs:z_ (z_ Key×td×r_),
   Paired (λ(p:z_ Key×V)(q:z_ Key×td×r_)=>p.1=q.1/\H q.2.1=a_ (.tup (p.1.map kV))/\RelV p.2 q.2.2) kvs xs/\
   ∃o es ep,h.get? a=a_ o/\o.ExactDict/\o.data=.dict es ep/\es.toList=xs.map (entryOfKey (tupleKind (cS P w)))/\(xs.map (·.1)).Nodup
 |.set S n=>h.SetOf (intKind P w) a S n
 | .ins C dx fs=>H dx=a_ (.own a)/\fs.length<=1000/\dx≠a/\h.get? a=a_ (y1B C dx)/\
   ∃mA,h.Ns1 dx mA/\(∀f,vB (fs.lookup f) (mA f))/\PySem.Within mA (fs.map (·.1))
 |.own _=>∃o,h.get? a=a_ o
 |.xd fs=>∃mA,h.Ns1 a mA/\∀f,vB (fs.lookup f) (mA f)
 |.rng lo hi=>∃t u v,h.get? a=a_ {cls:=.type "range",data:=.fields #[.int lo t,.int hi u,.int 1 v]}
 |.frz o u=>h.get? a=a_ o/\fD H h a u
 |.tbl ps=>h.get? a=a_ {cls:=.none,data:=.fields ps}
 |.met f x=>h.get? a=a_ (PySem.W.methodObj (.ref f) (.ref x))
 |.ext φ=>φ h/\(∃o,h.get? a=a_ o)/\∀h1 h2:v_,φ h1->(∀o,h1.get? a=a_ o->h2.get? a=a_ o)->φ h2
def HOk(H:Hp)(h:v_):Prop:=∀a o,H a=a_ o->fD P w H h a o
end
variable{P:w_}{w:w4}
theorem fD.lt{h:v_}{o:HO}(x:fD P w H h a o):a<h.objs.size:=by
 cases o with
 |lst xs=>let⟨_,_,_,_,e⟩:=x;show yj e
 |tup xs=>let⟨_,_,_,p⟩:=x;show Bl.lt p
 |dK kvs=>let⟨_,_,_,_,o,_,_,e,_⟩:=x;show yj e
 |dT kvs=>let⟨_,_,_,_,o,_,_,e,_⟩:=x;show yj e
 |set S n=>let⟨o,_,_,_,e,_⟩:=x;show yj e
 |ins C dx fs=>let⟨_,_,_,e,_⟩:=x;show yj e
 |own y=>let⟨_,e⟩:=x;show yj e
 |xd fs=>let⟨_,⟨_,_,_,e,_⟩,_⟩:=x;show yj e
 |rng lo hi=>let⟨_,_,_,e⟩:=x;show yj e
 |frz ob u=>let⟨e,_⟩:=x;show yj e
 |tbl ps=>exact yj (show h.get? a=a_ _ from x)
 |met f y=>exact yj (show h.get? a=a_ _ from x)
 |ext φ=>let⟨_,⟨_,e⟩,_⟩:=x;show yj e
theorem Paired.mapP{α β:Type}{F G:α->β->Prop}:∀{l₁:z_ α}{l₂:z_ β},Paired F l₁ l₂->(∀a b,F a b->G a b)->Paired G l₁ l₂
 |_,_,.nil,_=>.nil
 |_,_,.cons r t,f=>.cons (f _ _ r) (Paired.mapP t f)
variable{H':Hp}{h':v_}
theorem fD.stay{h:v_}{o:HO}(x:fD P w H h a o)(k:∀b u,(b=a\/H b=a_ (.own a))->h.get? b=a_ u->q0D 0=a_ u)(ho:∀b,H b=a_ (.own a)->H' b=a_ (.own a))(ht:∀b xs,H b=a_ (.tup xs)->H' b=a_ (.tup xs)):fD P w H' h' a o:=by
 induction o with
 |lst xs=>let⟨z,its,n,r,e⟩:=x;show⟨z,its,n,r,q0X (.inl rfl) e⟩
 |tup xs=>let⟨z,its,r,ob,e,c⟩:=x;show⟨z,its,r,ob,q0X (.inl rfl) e,c⟩
 |dK kvs=>let⟨z,y,vs,r,ob,es,ep,e,c⟩:=x;show⟨z,y,vs,r,ob,es,ep,q0X (.inl rfl) e,c⟩
 |dT kvs=>let⟨z,y,xs,r,ob,es,ep,e,c⟩:=x;show⟨z,y,xs,Paired.mapP r λp q z=>⟨z.1,ht _ _ z.2.1,z.2.2⟩,ob,es,ep,q0X (.inl rfl) e,c⟩
 |set S n=>let⟨ob,es,ep,t,e,c⟩:=x;show⟨ob,es,ep,t,q0X (.inl rfl) e,c⟩
 |ins C dx fs=>let⟨d,z,ne,e,mA,⟨od,es,ep,e2,c⟩,r⟩:=x;show⟨ho _ d,z,ne,q0X (.inl rfl) e,mA,⟨od,es,ep,q0X (.inr d) e2,c⟩,r⟩
 |own y=>let⟨ob,e⟩:=x;show⟨ob,q0X (.inl rfl) e⟩
 |xd fs=>let⟨mA,⟨od,es,ep,e,c⟩,r⟩:=x;show⟨mA,⟨od,es,ep,q0X (.inl rfl) e,c⟩,r⟩
 |rng lo hi=>let⟨t,u,v,e⟩:=x;show⟨t,u,v,q0X (.inl rfl) e⟩
 |frz ob u ih=>let⟨e,q⟩:=x;show⟨q0X (.inl rfl) e,ih q⟩
 |tbl ps=>
  let e:h.get? a=a_ {cls:=.none,data:=.fields ps}:=x
  change h'.get? a=a_ {cls:=.none,data:=.fields ps}
  show k a _ (.inl rfl) e
 |met f y=>
  let e:h.get? a=a_ (PySem.W.methodObj (.ref f) (.ref y)):=x
  change h'.get? a=a_ (PySem.W.methodObj (.ref f) (.ref y))
  show k a _ (.inl rfl) e
 |ext φ=>let⟨p,⟨o,e⟩,st⟩:=x;show⟨st _ _ p λo q=>q0X (.inl rfl) q,⟨o,q0X (.inl rfl) e⟩,st⟩
theorem HOk.lt{h:v_}{o:HO}(x:q1l h)(e:H a=a_ o):a<h.objs.size:=(x a o e).lt
theorem HOk.fresh{h:v_}(x:q1l h)(e:h.objs.size<=a):H a=b_:=by
 cases q:H a with
 |none=>rfl
 |some u=>exact absurd (y3 (x.lt q) e) (y0P _)
theorem HOk.kept{h:v_}(x:q1l h)(k:∀b u,h.get? b=a_ u->q0D 0=a_ u):q1l h':=λa o e=>(x a o e).stay (λb u _ q=>k b u q) (λ_ q=>q) λ_ _ q=>q
theorem HOk.laid{h:v_}{o:HO}(x:q1l h)(k:∀b u,h.get? b=a_ u->q0D 0=a_ u)(hp:h.objs.size<=a)(new:fD P w (Z_ a o) h' a o):HOk P w (Z_ a o) h':=λb u e=>by
 let hn:=x.fresh hp;by_cases hb:b=a
 ·subst hb;rw[bP]at e;cases e;show new
 ·rw[bA hb]at e;show(x b u e).stay (λc v _ q=>k c v q) (λc q=>by rw[bA (iZ q hn)];show q) λc xs q=>by rw[bA (iZ q hn)];show q
def Rd(H:Hp)(a:td)(u:HO):Prop:=H a=a_ u\/∃o,H a=a_ (.frz o u)
theorem Rd.ok{h:v_}{u:HO}(r:Rd H a u)(x:q1l h):fD P w H h a u:=by
 rcases r with r|⟨o,r⟩
 ·show x a u r
 ·let⟨_,q⟩:=x a _ r;show q
def Mut:A_ HO->Prop
 |some (.lst _)=>True
 |some (.dK _)=>True
 |some (.dT _)=>True
 |some (.set _ _)=>True
 |some (.ins _ _ _)=>True
 |some (.ext _)=>True
 |_=>False
section
variable{h:v_}{x e:td}{o':HO}
theorem HOk.write(ok:q1l h)(mu:Mut (H x))(he:e=x\/H e=a_ (.own x))(k:∀b u,b≠e->h.get? b=a_ u->q0D 0=a_ u)(mn:∃u,h'.get? e=a_ u)
  (new:fD P w (Z_ x o') h' x o'):HOk P w (Z_ x o') h':=λb u q=>by
 let n8:∀c y,H c=a_ (.own y)->c≠x:=λc y r z=>by subst z;rw[r]at mu;show mu
 let tu:∀c xs,H c=a_ (.tup xs)->c≠x:=λc xs r z=>by subst z;rw[r]at mu;show mu
 by_cases hb:b=x
 ·subst hb;rw[bP]at q;cases q;show new
 ·rw[bA hb]at q;by_cases hbe:b=e
  ·let q':H b=a_ (.own x):=by
    rcases he with z|z
    ·show absurd (hbe.trans z) hb
    ·rw[hbe];show z
   rw[q]at q';cases q';let⟨v,hv⟩:=mn;show⟨v,by rw[hbe];show hv⟩
  ·refine(ok b u q).stay (λc v hc r=>k c v ?_ r) (λc r=>by rw[bA (n8 c b r)];show r) λc xs r=>by rw[bA (tu c xs r)];show r
   rcases hc with rfl|hc
   ·show hbe
   ·rintro rfl;rcases he with z|z
    ·show n8 c b hc z
    ·rw[hc]at z;cases z;show hb rfl
end
structure Un(fs ex:z_ td)(H H':Hp)(h h':v_):Prop where
 keep:∀b o,h.get? b=some o->H b=none->b∉fs->b∉ex->h'.get? b=some o
 slot:∀b o,h.get? b=some o->H b=none->b∈fs->b∉ex->∃sl,h'.get? b=some { o with slots:=sl}
 free:∀b o,h.get? b=some o->H b=none->b∉ex->H' b=none
 there:∀b o,h.get? b=some o->b∉ex->∃o',h'.get? b=some o'
 tups:∀b xs,H b=some (.tup xs)->H' b=some (.tup xs)
 frzs:∀b o u,H b=some (.frz o u)->H' b=some (.frz o u)
 tbls:∀b ps,H b=some (.tbl ps)->∃more,H' b=some (.tbl (ps++more))
variable{H1:Hp}{ex:z_ td}{ob:Obj}
section
variable{fs ja ex':z_ td}{h h1 h2:v_}{x e:td}{o:HO}
theorem Un.any(u:Un fs ex H H1 h h1){b:td}(q:h.get? b=a_ ob)(n:H b=b_)(hx:b∉ex):∃sl,h1.get? b=a_ { ob with slots:=sl}:=by
 by_cases hb:b∈fs
 ·show u.slot b ob q n hb hx
 ·show⟨ob.slots,u.keep b ob q n hb hx⟩
theorem Un.kept(k:∀b u,h.get? b=a_ u->q0D 0=a_ u):Un fs ex H H h h':=⟨λb ob q _ _ _=>k b ob q,λb ob q _ _ _=>⟨ob.slots,k b ob q⟩,λ_ _ _ n _=>n,λb ob q _=>⟨ob,k b ob q⟩,λ_ _ q=>q,λ_ _ _ q=>q,λ_ ps q=>⟨#[],by rw[q];simp⟩⟩
theorem Un.refl:Un fs ex H H h h:=Un.kept λ_ _ q=>q
theorem Un.laid(k:∀b u,h.get? b=a_ u->q0D 0=a_ u)(hp:h.objs.size<=a)(hn:H a=b_):Un fs ex H (Z_ a o) h h' where
 keep:=λb u q _ _ _=>k b u q
 slot:=λb u q _ _ _=>⟨u.slots,k b u q⟩
 free:=λb u q n _=>by rw[bA (yt (y3 (yj q) hp))];show n
 there:=λb u q _=>⟨u,k b u q⟩
 tups:=λb xs q=>by rw[bA (iZ q hn)];show q
 frzs:=λb u xs q=>by rw[bA (iZ q hn)];show q
 tbls:=λb ps q=>⟨#[],by rw[bA (iZ q hn),q];simp⟩
theorem Un.write(mu:Mut (H x))(he:e=x\/H e=a_ (.own x))(k:∀b u,b≠e->h.get? b=a_ u->q0D 0=a_ u)(mn:∃u,h'.get? e=a_ u):Un fs ex H (Z_ x o) h h':=by
 let hx:∀b,H b=b_->b≠x:=λb n z=>by subst z;rw[n]at mu;show mu
 let hb:∀b,H b=b_->b≠e:=λb n z=>by
  subst z;rcases he with r|r
  ·show hx b n r
  ·rw[n]at r;cases r
 let hm:∀b u,H b=a_ u->¬ Mut (a_ u)->b≠x:=λb u q nm z=>by subst z;rw[q]at mu;show nm mu
 refine⟨λb u q n _ _=>k b u (hb b n) q,λb u q n _ _=>⟨u.slots,k b u (hb b n) q⟩,λb u q n _=>by rw[bA (hx b n)];show n,λb u q _=>?_,
  λb xs q=>by rw[bA (hm b _ q λz=>z)];show q,λb u xs q=>by rw[bA (hm b _ q λz=>z)];show q,λb ps q=>⟨#[],by rw[bA (hm b _ q λz=>z),q];simp⟩⟩
 by_cases hbe:b=e
 ·subst hbe;show mn
 ·show⟨u,k b u hbe q⟩
end
def trk(h:v_)(H:Hp):z_ td:=(za h.objs.size).filter λa=>(H a).isSome
def HJ(h:v_)(H:Hp):v_:=PySem.W.hideAll h (trk h H)
theorem O3(h:v_)(H:Hp):(HJ h H).objs.size=h.objs.size:=PySem.W.hideAll_size _ _
theorem PJ{h:v_}{b:td}{o:Obj}(e:h.get? b=a_ o)(n:H b=b_):(HJ h H).get? b=a_ o:=PySem.W.hideAll_get _ e λhm=>by let q:(H b).isSome=true:=(List.mem_filter.mp hm).2;rw[n]at q;simp at q
theorem Td{h:v_}{b:td}{o:Obj}(e:(HJ h H).get? b=a_ o):h.get? b=a_ o/\H b=b_:=by
 let e':h.get? b=a_ o:=PySem.W.of_hideAll (trk h H) e;refine⟨e',?_⟩;cases q:H b with
 |none=>rfl
 |some x=>have hm:b∈trk h H:=List.mem_filter.mpr ⟨List.mem_range.mpr (yj e'),by simp[q]⟩;let z:(HJ h H).get? b=b_:=PySem.W.hideAll_none (trk h H) hm;rw[z]at e;cases e
def Te(g h:v_)(L:td):gV 0:=(za h.objs.size).filterMap λa=>if a=L\/(g.get? a).isSome=true then b_ else(h.get? a).map λo=>(a,o)
def rest(g h:v_)(L d:td):gV 0:=(Te g h L).filter λp=>decide (p.1≠d)
structure Mod(K:yb)(mg:n_ 0)(base:v_):Prop where
 kin:K.In base
 glob:base.Ns z6 mg
 blt:∃mb,base.Ns builtinsNs mb/\∀x:Str,x≠"__name__" -> mb x=y1J x
 nolimit:base.NoLimit
structure Cx where
 prog:w_
 w:w4
 K:yb
 mg:n_ 0
 base:v_
 A:u_
 N:z_ Str
 s₀:s_
 H₀:Hp
 env:Env
 outer:z_ Env
 stack:z_ Env
 ex:z_ td
 fn:Str->Bool
 calm:Bool
 pn:gV 0
 xe:f_ 0
def frs(l:z_ Env):z_ td:=l.filterMap (·.frame)
abbrev Cx.fs(X:Cx):z_ td:=frs X.outer
def Vis(sc:Scope)(x:Str):Prop:=q0A 0=a_ .local\/q0A 0=a_ .cell\/q0A 0=a_ .free
def Loc(sc:Scope)(x:Str):Prop:=q0A 0=a_ .local\/q0A 0=a_ .cell
def Look(env:Env)(h:v_)(m:n_ 0)(x:Str)(u:r_):Prop:=(env.kindOf x=a_ .local/\m x=a_ u)\/((env.kindOf x=a_ .cell\/env.kindOf x=a_ .free)/\∃c,env.cells.lookup x=a_ c/\h.IsCell c (a_ u))
structure Cx.Ok(X:Cx):Prop where
 mod:Mod X.K X.mg X.base
 kind:X.env.scope.kind=.function
 glob:X.env.globals=z6
 blt:X.env.builtins=builtinsNs
 above:X.s₀.heap.objs.size<=X.env.locals
 inj:∀x y c,X.env.cells.lookup x=some c->X.env.cells.lookup y=some c->x=y
 has:∀x,(X.env.kindOf x=some .cell\/X.env.kindOf x=some .free)->∃c,X.env.cells.lookup x=some c
 cab:∀x c,X.fn x=true->X.env.cells.lookup x=some c->X.s₀.heap.objs.size<=c
 hd:X.calm=true->X.A.handled=none
 frames:X.A.frames=some X.stack
 stk:X.stack=X.outer\/(X.stack=X.env::X.outer/\X.env.frame=some X.env.locals)
 exf:∀b∈X.ex,b≠X.env.locals/\∀x c,X.env.cells.lookup x=some c->c≠b
 bs:∀b o,X.base.get? b=some o->X.s₀.heap.get? b=some o/\X.H₀ b=none
 bsz:X.base.objs.size<=X.s₀.heap.objs.size
 noex:∀b o,X.base.get? b=some o->b∉X.ex
 exfs:∀b∈X.ex,b∉X.fs
 funs:X.s₀.heap.FunFrames X.base X.outer
 frf:∀b∈X.fs,X.H₀ b=none
structure Inv(X:Cx)(P1:gV 0)(σ:z_ (A_ V))(H:Hp)(s:s_):Prop where
 ok:X.Ok
 os:s.os=X.s₀.os
 bare:AllBare s.gens
 base:Un X.fs X.ex X.H₀ H X.s₀.heap s.heap
 loc:∃m,s.heap.Ns X.env.locals m/\∀(i:Nat)(x:Str)(v:V),X.N[i]?=some x->σ[i]?=some (some v)->Vis X.env.scope x->∃u,RelV v u/\Look X.env s.heap m x u
 cell:∀x c,X.env.cells.lookup x=some c->∃v,s.heap.IsCell c v
 free:H X.env.locals=none
 freeC:∀x c,X.env.cells.lookup x=some c->H c=none
 pin:∀p∈X.pn++P1,s.heap.get? p.1=some p.2/\H p.1=none/\p.1≠X.env.locals/\p.1∉X.fs/\∀v,p.2.data≠.cell v
 hok:HOk X.prog X.w H s.heap
 len:σ.length=X.N.length
variable{X:Cx}
theorem Cx.Ok.nofr(ok:X.Ok){b:td}{o:Obj}(e:X.base.get? b=a_ o):b∉X.fs:=λhb=>by have:=(ok.funs.mem hb).1;rw[e]at this;cases this
variable{P1:gV 0}{s:s_}
theorem Inv.bs{σ:z_ (A_ V)}(I:Q_ s):∀b o,X.base.get? b=a_ o->P2 0=a_ o/\H b=b_:=λb o e=>⟨I.base.keep b o (I.ok.bs b o e).1 (I.ok.bs b o e).2 (I.ok.nofr e) (I.ok.noex b o e),I.base.free b o (I.ok.bs b o e).1 (I.ok.bs b o e).2 (I.ok.noex b o e)⟩
theorem Inv.bk{σ:z_ (A_ V)}(I:Q_ s):∀b o,X.base.get? b=a_ o->P2 0=a_ o:=λb o e=>(I.bs b o e).1
theorem Inv.mod{σ:z_ (A_ V)}(I:Q_ s):Mod X.K X.mg X.base:=I.ok.mod
theorem Inv.kIn{σ:z_ (A_ V)}(I:Q_ s):X.K.In s.heap:=I.ok.mod.kin.keeps I.bk
theorem Inv.lt{σ:z_ (A_ V)}(I:Q_ s):X.env.locals<(e_ s):=let ⟨_,hn,_⟩:=I.loc;hn.lt
theorem Inv.sz{σ:z_ (A_ V)}(I:Q_ s):X.s₀.heap.objs.size<=(e_ s):=ze I.ok.above (y0G I.lt)
theorem Inv.nofs{σ:z_ (A_ V)}(I:Q_ s)(h:(e_ s)<=a):a∉X.fs:=λhb=>by let⟨_,o,ho,_⟩:=I.ok.funs.mem hb;show absurd (y3 (yj ho) (ze I.sz h)) (y0P _)
theorem Inv.cne{σ:z_ (A_ V)}(I:Q_ s):∀x c,S_ 0=a_ c->c≠X.env.locals:=λx c e z=>by let⟨v,o,ho,hd⟩:=I.cell x c e;let⟨m,⟨o',es,ep,dq,dr,_⟩,_⟩:=I.loc;rw[z,dq]at ho;cases ho;rw[dr]at hd;cases hd
theorem Inv.funs{σ:z_ (A_ V)}(I:Q_ s):s.heap.FunFrames X.base X.outer:=by
 let all:∀(l:z_ Env),(∀b∈frs l,b∈X.fs)->X.s₀.heap.FunFrames X.base l->s.heap.FunFrames X.base l:=by
  intro l
  induction l with
  |nil=>intro _ _;trivial
  |cons env r ih=>intro hs hl;let⟨hk,⟨L,o,hf,hn,ho,hd⟩,hr⟩:=hl;let hL:L∈X.fs:=hs L (by unfold frs;rw[y14,hf];show ye);let⟨sl,e⟩:=I.base.slot L o ho (I.ok.frf L hL) hL λz=>I.ok.exfs L z hL;show⟨hk,⟨L,_,hf,hn,e,hd⟩,ih (λb hb=>hs b (by unfold frs;rw[y14,hf];show yd _ hb)) hr⟩
 show all X.outer (λ_ hb=>hb) I.ok.funs
theorem Inv.stack{σ:z_ (A_ V)}(I:Q_ s):s.heap.FunFrames X.base X.stack:=by
 rcases I.ok.stk with e|⟨e,hf⟩
 ·rw[e];show I.funs
 ·rw[e];let⟨m,hn,_⟩:=I.loc;refine .cons (by rw[I.ok.kind];decide) hf hn ?_ I.funs;show Heap.get?_none_of_le (ze I.ok.bsz I.ok.above)
theorem Inv.stkSub{σ:z_ (A_ V)}(I:Q_ s):∀b∈frs X.stack,b∈X.env.locals::X.fs:=λb hb=>by
 rcases I.ok.stk with e|⟨e,hf⟩
 ·rw[e]at hb;show yd _ hb
 ·rw[e]at hb;unfold frs at hb;rw[y14,hf]at hb;show hb
theorem Inv.stkFree{σ:z_ (A_ V)}(I:Q_ s):∀b∈frs X.stack,H b=b_:=λb hb=>by
 rcases yr.mp (I.stkSub b hb) with e|hb
 ·rw[e];show I.free
 ·let⟨_,o,ho,_⟩:=I.ok.funs.mem hb;show I.base.free b o ho (I.ok.frf b hb) λz=>I.ok.exfs b z hb
variable{ch:z_ td}{d':Drawn}{g':Array GenState}{t':Nat}
theorem Inv.step{σ:z_ (A_ V)}(I:Q_ s)(iz:∀b∈ch,(b∈X.ex\/X.s₀.heap.objs.size<=b)/\b≠X.env.locals/\(∀x c,S_ 0=a_ c->c≠b)/\∀p∈X.pn++P1,p.1≠b)(keep:∀b o,b≠X.env.locals->b∉X.fs->b∉ch->P2 0=a_ o->H b=b_->q0D 0=a_ o)(slot:∀b o,b≠X.env.locals->b∈X.fs->b∉ch->P2 0=a_ o->H b=b_->∃sl,q0D 0=a_ { o with slots:=sl})(free:∀b o,b∉ch->P2 0=a_ o->H b=b_->H' b=b_)(there:∀b o,b∉ch->P2 0=a_ o->∃o',q0D 0=a_ o')(tups:∀b xs,H b=a_ (.tup xs)->H' b=a_ (.tup xs))(frzs:∀b o u,H b=a_ (.frz o u)->H' b=a_ (.frz o u))(tbls:∀b ps,H b=a_ (.tbl ps)->∃more,H' b=a_ (.tbl (ps++more)))(ns:∀m,s.heap.Ns X.env.locals m->h'.Ns X.env.locals m)(hok:HOk X.prog X.w H' h')(hg:AllBare g'):
  j_ H' {s with heap:=h',gens:=g',drawn:=d',toks:=t'}:=by
 let vg:∀b o,X.s₀.heap.get? b=a_ o->b≠X.env.locals:=λb o e=>yt (y3 (yj e) I.ok.above);let qi:∀b o,X.s₀.heap.get? b=a_ o->b∉X.ex->b∉ch:=λb o e hx hb=>by
  rcases(iz b hb).1 with z|z
  ·show hx z
  ·show absurd (y3 (yj e) z) (y0P _)
 let cellK:∀x c,S_ 0=a_ c->∀v,s.heap.IsCell c v->h'.IsCell c v:=λx c e v ⟨o,ho,hd⟩=>by
  let m7:c∉ch:=λz=>(iz c z).2.2.1 x c e rfl;by_cases hc:c∈X.fs
  ·let⟨sl,q⟩:=slot c o (I.cne x c e) hc m7 ho (I.freeC x c e);show⟨_,q,hd⟩
  ·show⟨o,keep c o (I.cne x c e) hc m7 ho (I.freeC x c e),hd⟩
 refine⟨I.ok,I.os,hg,⟨λb o e n hb hx=>?_,λb o e n hb hx=>?_,λb o e n hx=>?_,λb o e hx=>?_,λb xs e=>tups b xs (I.base.tups b xs e),λb o xs e=>frzs b o xs (I.base.frzs b o xs e),λb ps e=>?_⟩,?_,λx c e=>?_,?_,λx c e=>?_,λp hp=>?_,hok,I.len⟩
 ·show keep b o (vg b o e) hb (qi b o e hx) (I.base.keep b o e n hb hx) (I.base.free b o e n hx)
 ·let⟨sl,e1⟩:=I.base.slot b o e n hb hx;let⟨sl',e2⟩:=slot b _ (vg b o e) hb (qi b o e hx) e1 (I.base.free b o e n hx);show⟨sl',e2⟩
 ·let⟨o',e1⟩:=I.base.there b o e hx;show free b o' (qi b o e hx) e1 (I.base.free b o e n hx)
 ·let⟨o',e1⟩:=I.base.there b o e hx;show there b o' (qi b o e hx) e1
 ·let⟨m1,e1⟩:=I.base.tbls b ps e;let⟨m2,e2⟩:=tbls b _ e1;show⟨m1++m2,by rw[e2,Array.append_assoc]⟩
 ·let⟨m,hn,hl⟩:=I.loc;refine⟨m,ns m hn,λi x v e1 e2 e3=>?_⟩;let⟨u,r,l⟩:=hl i x v e1 e2 e3;refine⟨u,r,?_⟩;rcases l with l|⟨k,c,e,z⟩
  ·show .inl l
  ·show .inr ⟨k,c,e,cellK x c e _ z⟩
 ·let⟨v,z⟩:=I.cell x c e;show⟨v,cellK x c e v z⟩
 ·let⟨m,⟨o,_,_,ho,_⟩,_⟩:=I.loc;show free _ o (λz=>(iz _ z).2.1 rfl) ho I.free
 ·let⟨v,o,ho,hd⟩:=I.cell x c e;show free c o (λz=>(iz c z).2.2.1 x c e rfl) ho (I.freeC x c e)
 ·let⟨e,n,ne,nf,d⟩:=I.pin p hp;let m7:p.1∉ch:=λz=>(iz p.1 z).2.2.2 p hp rfl;show⟨keep p.1 p.2 ne nf m7 e n,free p.1 p.2 m7 e n,ne,nf,d⟩
theorem Inv.un{σ:z_ (A_ V)}(I:Q_ s)(u:Un X.fs [] H H' s.heap h')(hok:HOk X.prog X.w H' h'):j_ H' {s with heap:=h',toks:=t'}:=by let⟨m,⟨o,es,ep,ho,r⟩,_⟩:=id I.loc;let⟨sl,hL⟩:=u.any ho I.free (by simp);show I.step (g':=s.gens) (d':=s.drawn) (ch:=[]) (λ_ z=>q0N 0) (λb o _ hb _ e n=>u.keep b o e n hb (by simp)) (λb o _ hb _ e n=>u.slot b o e n hb (by simp)) (λb o _ e n=>u.free b o e n (by simp)) (λb o _ e=>u.there b o e (by simp)) u.tups u.frzs u.tbls (λm' hm=>by let⟨o',kg,ji,dq,r'⟩:=hm;rw[ho]at dq;cases dq;show⟨_,kg,ji,hL,r'⟩) hok I.bare
theorem Inv.call{σ:z_ (A_ V)}(I:Q_ s)(u:Un (frs X.stack) ch H H' s.heap h')(hok:HOk X.prog X.w H' h')(hg:AllBare g')(iz:∀b∈ch,(b∈X.ex\/X.s₀.heap.objs.size<=b)/\b≠X.env.locals/\(∀x c,S_ 0=a_ c->c≠b)/\∀p∈X.pn++P1,p.1≠b):
  j_ H' {s with heap:=h',gens:=g',drawn:=d',toks:=t'}:=by
 let⟨m,⟨o,es,ep,ho,r⟩,_⟩:=id I.loc;let⟨sl,hL⟩:=u.any ho I.free λz=>(iz _ z).2.1 rfl;show I.step (ch:=ch) iz (λb o hL hb hc e n=>u.keep b o e n (λz=>(yr.mp (I.stkSub b z)).elim hL hb) hc) (λb o _ _ hc e n=>u.any e n hc) (λb o hc e n=>u.free b o e n hc) (λb o hc e=>u.there b o e hc) u.tups u.frzs u.tbls (λm' hm=>by let⟨o',kg,ji,dq,r'⟩:=hm;rw[ho]at dq;cases dq;show⟨_,kg,ji,hL,r'⟩) hok hg
variable{it:td}
theorem Inv.turned{σ:z_ (A_ V)}(I:Q_ s)(k:∀b o,b≠it->P2 0=a_ o->q0D 0=a_ o)(hn:H it=b_)(hL:it≠X.env.locals)(h1:it∈X.ex\/X.s₀.heap.objs.size<=it)(h2:∀x c,S_ 0=a_ c->c≠it)(h3:∀p∈X.pn++P1,p.1≠it):Q_ {s with heap:=h',toks:=t'}:=by
 let m9:∀b u,H b=a_ u->b≠it:=λb u e z=>by rw[z,hn]at e;cases e
 refine I.step (g':=s.gens) (d':=s.drawn) (ch:=[it]) (λb hb=>?_) (λb o _ _ hc e _=>k b o (λz=>hc (by simp[z])) e) (λb o _ _ hc e _=>⟨o.slots,k b o (λz=>hc (by simp[z])) e⟩) (λ_ _ _ _ n=>n)
  (λb o hc e=>⟨o,k b o (λz=>hc (by simp[z])) e⟩) (λ_ _ e=>e) (λ_ _ _ e=>e) (λb ps e=>⟨#[],by rw[e];simp⟩) (λm hm=>?_) (λb u e=>?_) I.bare
 ·let e:b=it:=by simpa using hb
  subst e;show⟨h1,hL,h2,h3⟩
 ·let⟨o,es,ep,ho,r⟩:=hm;show⟨o,es,ep,k _ o (y1o hL) ho,r⟩
 ·refine(I.hok b u e).stay (λc v hc q=>k c v ?_ q) (λ_ q=>q) λ_ _ q=>q;rcases hc with z|z
  ·rw[z];show m9 b u e
  ·show m9 c _ z
theorem Inv.tok{σ:z_ (A_ V)}(I:Q_ s)(t:Nat):Q_ { s with toks:=t}:=I.un (h':=s.heap) (t':=t) Un.refl I.hok
theorem Inv.kept{σ:z_ (A_ V)}(I:Q_ s)(k:∀b u,P2 0=a_ u->q0D 0=a_ u):Q_ {s with heap:=h',toks:=t'}:=I.un (Un.kept k) (I.hok.kept k)
theorem Inv.laid{σ:z_ (A_ V)}{o:HO}(I:Q_ s)(k:∀b u,P2 0=a_ u->q0D 0=a_ u)(hp:(e_ s)<=a)(new:q0x (Z_ a o) h' a o):
  j_ (Z_ a o) {s with heap:=h',toks:=t'}:=I.un (Un.laid k hp (I.hok.fresh hp)) (I.hok.laid k hp new)
theorem Inv.write{σ:z_ (A_ V)}{x e:td}{o:HO}(I:Q_ s)(mu:Mut (H x))(he:e=x\/H e=a_ (.own x))(k:∀b u,b≠e->P2 0=a_ u->q0D 0=a_ u)(mn:∃u,h'.get? e=a_ u)(new:q0x (Z_ x o) h' x o):j_ (Z_ x o) {s with heap:=h',toks:=t'}:=I.un (Un.write mu he k mn) (I.hok.write mu he k mn new)
variable{c7:gV 0}
theorem Inv.pins_of{σ:z_ (A_ V)}(I:Q_ s)(h:∀p∈c7,s.heap.get? p.1=a_ p.2/\H p.1=b_/\p.1≠X.env.locals/\p.1∉X.fs/\∀v,p.2.data≠.cell v):Inv X c7 σ H s:=⟨I.ok,I.os,I.bare,I.base,I.loc,I.cell,I.free,I.freeC,λp hp=>(zf.mp hp).elim (λz=>I.pin p (z8 _ z)) (h p),I.hok,I.len⟩
variable{N:z_ Str}{i j:Nat}{x:Str}
theorem Ju(hN:N.Nodup)(a:N[i]?=a_ x)(b:N[j]?=a_ x):i=j:=by let⟨h1,e1⟩:=xt.mp a;let⟨h2,e2⟩:=xt.mp b;show(List.getElem_inj hN).mp (e1.trans e2.symm)
variable{A:u_}{E:f_ 0}{M:Model}{v:V}
theorem GA{σ:z_ (A_ V)}{Q:jn Unit}(I:Q_ s)(hN:X.N.Nodup)(hi:X.N[i]?=a_ x)(hx:Loc X.env.scope x)(r:RelV v u)(h:∀s',Inv X P1 (σ.set i (a_ v)) H s'->(∃a,y1w a s.heap s'.heap/\(a=X.env.locals\/S_ 0=a_ a))->Q () s')(hf:X.fn x=true\/q0c 0=a_ .local:=by first|exact .inl rfl|exact .inr rfl|assumption):wpAny M A (storeName X.env x u) Q E s:=by
 let⟨m,hn,hl⟩:=id I.loc;let ur:(X.env.scope.kind == .class || (X.env.scope.kind == .module&&X.env.locals != X.env.globals))=false:=by rw[I.ok.kind];rfl
 let xg:i<σ.length:=by rw[I.len];show(xt.mp hi).1
 let cne:=I.cne;let tracked:∀{a:td}{h':v_},(∃o,s.heap.get? a=a_ o/\H a=b_)->y1w a s.heap h'->HOk X.prog X.w H h':=λ{a h'} ha hs b ob e=>by
  let⟨_,_,jq⟩:=ha;refine(I.hok b ob e).stay (λc w' hc q=>(hs.2 c ?_).trans q) (λ_ q=>q) λ_ _ q=>q;rintro rfl;rcases hc with rfl|hc
  ·rw[jq]at e;cases e
  ·rw[jq]at hc;cases hc
 rcases hx with hk|hk
 ·refine wpAny_storeName_local hk hn (λh' mz hs=>?_) ur;let⟨oL,_,_,fu,_⟩:=id hn;refine h _ ⟨I.ok,I.os,I.bare,⟨λb o e n hb hx=>?_,λb o e n hb hx=>?_,I.base.free,λb o e hx=>?_,I.base.tups,I.base.frzs,I.base.tbls⟩,⟨_,mz,λj y v' e1 e2 e3=>?_⟩,λy c e=>?_,I.free,I.freeC,λp hp=>?_,tracked ⟨oL,fu,I.free⟩ hs,k_ I.len⟩ ⟨_,hs,.inl rfl⟩
  ·show(hs.2 b (yt (y3 (yj e) I.ok.above))).trans (I.base.keep b o e n hb hx)
  ·let⟨sl,e1⟩:=I.base.slot b o e n hb hx;show⟨sl,(hs.2 b (yt (y3 (yj e) I.ok.above))).trans e1⟩
  ·let⟨o',e1⟩:=I.base.there b o e hx;show⟨o',(hs.2 b (yt (y3 (yj e) I.ok.above))).trans e1⟩
  ·by_cases hj:j=i
   ·subst hj;rw[hi]at e1;cases e1;rw[y0g xg]at e2;cases e2
    show⟨u,r,.inl ⟨hk,by simp⟩⟩
   ·rw[y0i (y1o hj)]at e2;let⟨u',r',q⟩:=hl j y v' e1 e2 e3;refine⟨u',r',?_⟩;rcases q with⟨k,e⟩|⟨k,c,e,z⟩
    ·refine .inl ⟨k,?_⟩;have:y≠x:=λe=>hj (Ju hN e1 (e▸hi));simp[this,e]
    ·show .inr ⟨k,c,e,z.sameBut hs (cne y c e)⟩
  ·let⟨w',z⟩:=I.cell y c e;show⟨w',z.sameBut hs (cne y c e)⟩
  ·let⟨e,n,ne,nf,d⟩:=I.pin p hp;show⟨(hs.2 p.1 ne).trans e,n,ne,nf,d⟩
 ·let tf:X.fn x=true:=by
   rcases hf with z|z
   ·show z
   ·rw[z]at hk;cases hk
  let⟨c,hc⟩:=I.ok.has x (.inl hk);let⟨w',z⟩:=I.cell x c hc;refine wpAny_storeName_cell I.ok.kind hk hc z (λh' aa hs=>?_);let⟨oc,ig,u7⟩:=id z;refine h {s with heap:=h'} ⟨I.ok,I.os,I.bare,⟨λb o e n hb hx=>?_,λb o e n hb hx=>?_,I.base.free,λb o e hx=>?_,I.base.tups,I.base.frzs,I.base.tbls⟩,⟨m,hn.sameBut hs (y1o (cne x c hc)),λj y v' e1 e2 e3=>?_⟩,λy c' e=>?_,I.free,I.freeC,λp hp=>?_,tracked ⟨oc,ig,I.freeC x c hc⟩ hs,k_ I.len⟩ ⟨c,hs,.inr hc⟩
  ·show(hs.2 b (yt (y3 (yj e) (I.ok.cab x c tf hc)))).trans (I.base.keep b o e n hb hx)
  ·let⟨sl,e1⟩:=I.base.slot b o e n hb hx;show⟨sl,(hs.2 b (yt (y3 (yj e) (I.ok.cab x c tf hc)))).trans e1⟩
  ·let⟨o',e1⟩:=I.base.there b o e hx;show⟨o',(hs.2 b (yt (y3 (yj e) (I.ok.cab x c tf hc)))).trans e1⟩
  ·by_cases hj:j=i
   ·subst hj;rw[hi]at e1;cases e1;rw[y0g xg]at e2;cases e2
    show⟨u,r,.inr ⟨.inl hk,c,hc,aa⟩⟩
   ·rw[y0i (y1o hj)]at e2;let⟨u',r',q⟩:=hl j y v' e1 e2 e3;refine⟨u',r',?_⟩;rcases q with q|⟨k,c',e,z'⟩
    ·show .inl q
    ·refine .inr ⟨k,c',e,z'.sameBut hs ?_⟩;rintro rfl;show hj (Ju hN e1 (I.ok.inj _ _ _ e hc▸hi))
  ·by_cases jw:c'=c
   ·subst jw;show⟨_,aa⟩
   ·let⟨w2,z2⟩:=I.cell y c' e;show⟨w2,z2.sameBut hs jw⟩
  ·let⟨e,n,ne,nf,d⟩:=I.pin p hp;refine⟨(hs.2 p.1 ?_).trans e,n,ne,nf,d⟩;intro q;rw[q,ig]at e;let q':oc=p.2:=yx e;show d w' (by rw[<-q'];show u7)
theorem Jv{σ:z_ (A_ V)}{Q:jn Unit}(I:Q_ s)(hN:X.N.Nodup)(hi:X.N[i]?=a_ x)(hx:Loc X.env.scope x)(r:RelV v u)(h:∀s',Inv X P1 (σ.set i (a_ v)) H s'->Q () s')(hf:X.fn x=true\/q0c 0=a_ .local:=by first|exact .inl rfl|exact .inr rfl|assumption):wpAny M A (storeName X.env x u) Q E s:=GA I hN hi hx r (λs' I' _=>h s' I') hf
variable{s':s_}
theorem Inv.call'{σ:z_ (A_ V)}(I:Q_ s)(ho:s'.os=s.os)(u:Un (frs X.stack) ch H H' s.heap s'.heap)(hok:HOk X.prog X.w H' s'.heap)(hg:AllBare s'.gens)(iz:∀b∈ch,(b∈X.ex\/X.s₀.heap.objs.size<=b)/\b≠X.env.locals/\(∀x c,S_ 0=a_ c->c≠b)/\∀p∈X.pn++P1,p.1≠b):j_ H' s':=by let⟨h',g',d',t',o'⟩:=s';let e:o'=s.os:=ho;subst e;show I.call (g':=g') (t':=t') (d':=d') u hok hg iz
abbrev XK:=r_->A_ td->Hp->Prop
abbrev St:=z_ (A_ V)
abbrev VK:=V->Hp->Prop
abbrev TE:=St->Hp->VK->Prop
abbrev TT:=St->Hp->(Bool->Hp->Prop)->Prop
abbrev TA:=St->Hp->(z_ V->Hp->Prop)->Prop
structure Ends where
 nx:St->Hp->Prop
 rt:VK
 bk:St->Hp->Prop:=λ_ _=>False
 ct:St->Hp->Prop:=λ_ _=>False
abbrev TS:=Ends->St->Hp->Prop
def EP(X:Cx)(P1:gV 0)(σ:St)(Q:VK)(u:r_)(s':s_):Prop:=∃v H',j_ H' s'/\RelV v u/\Q v H'
def TP(X:Cx)(P1:gV 0)(σ:St)(Q:Bool->Hp->Prop)(b:Bool)(s':s_):Prop:=∃H',j_ H' s'/\Q b H'
def AP(X:Cx)(P1:gV 0)(σ:St)(Q:z_ V->Hp->Prop)(us:z_ r_)(s':s_):Prop:=∃vs H',j_ H' s'/\bH vs us/\Q vs H'
def SP(X:Cx)(P1:gV 0)(D:Ends)(f:Flow)(s':s_):Prop:=
 match f with
 |.next=>∃σ' H',q0_ s'/\D.nx σ' H'
 |.brk=>∃σ' H',q0_ s'/\D.bk σ' H'
 |.cont=>∃σ' H',q0_ s'/\D.ct σ' H'
 |.ret u=>∃v σ' H',q0_ s'/\RelV v u/\D.rt v H'
def PE(X:Cx)(e:x_)(t:TE):Prop:=
 ∀(P1:gV 0)(s:s_)(σ:St)(H:Hp)(Q:VK),Q_ s->t σ H Q->wpAny (g_ X) X.A (q0d 0) (q0g Q) X.xe s
def PT(X:Cx)(e:x_)(t:TT):Prop:=
 ∀(P1:gV 0)(s:s_)(σ:St)(H:Hp)(Q:Bool->Hp->Prop),Q_ s->t σ H Q->wpAny (g_ X) X.A (isTrue e X.env (q0d 0)) (TP X P1 σ Q) X.xe s
def PW(X:Cx)(e:x_)(t:TT):Prop:=
 ∀(whole:Sem r_)(P1:gV 0)(s:s_)(σ:St)(H:Hp)(Q:Bool->Hp->Prop),Q_ s->t σ H Q->wpAny (g_ X) X.A (isTrue e X.env whole) (TP X P1 σ Q) X.xe s
variable{e:x_}
theorem PW.pt{t:TT}(h:PW X e t):PT X e t:=h _
def PA(X:Cx)(es:z_ x_)(t:TA):Prop:=
 ∀(pos:Pos)(P1:gV 0)(s:s_)(σ:St)(H:Hp)(Q:z_ V->Hp->Prop),Q_ s->t σ H Q->wpAny (g_ X) X.A (spliced (q0m (q0e 0))) (AP X P1 σ Q) X.xe s
def PS(X:Cx)(st:y_)(t:TS):Prop:=
 ∀(P1:gV 0)(s:s_)(σ:St)(H:Hp)(D:Ends),Q_ s->t D σ H->wpAny (g_ X) X.A (exec st X.env) (SP X P1 D) X.xe s
def PSs(X:Cx)(st:z_ y_)(t:TS):Prop:=
 ∀(P1:gV 0)(s:s_)(σ:St)(H:Hp)(D:Ends),Q_ s->t D σ H->wpAny (g_ X) X.A (execs st X.env) (SP X P1 D) X.xe s
theorem thn{α:Type}{t:Sem α}{Q Q':α->s_->Prop}(h:wpAny M A t Q E s)(hQ:∀a s,Q a s->Q' a s):wpAny M A t Q' E s:=y0R h hQ λ_ _ x=>x
variable{pos:Pos}{Q:f_ 0}{σ:St}{tA:TT}{qe:TT}{ta:TE}
section
def ZX(i:Nat):TE:=λσ H Q=>∃v,σ[i]?=a_ (a_ v)/\Q v H
def tC(v:V):TE:=λ_ H Q=>Q v H
theorem PK(hN:X.N[i]?=a_ x)(hv:Vis X.env.scope x)(hd:(x == ("__debug__" : Str))=false:=by decide)(fj:(x == ("__classdict__" : Str))=false:=by decide):PE X (.Name x pos) (ZX i):=by
 intro P1 s σ H Q I h;let⟨v,e,h⟩:=h;let⟨m,hn,hl⟩:=I.loc;let⟨u,r,l⟩:=hl i x v hN e hv;let fin:q0g Q u s:=⟨v,H,I,r,h⟩;rcases l with⟨hk,hm⟩|⟨hk,c,hc,d8⟩
 ·show wpAny_Name (wpAny_loadName_local I.ok.kind hk hn hm fin) hd
 ·rcases hk with hk|hk
  ·show wpAny_Name (wpAny_loadName_cell I.ok.kind hk hc d8 fin) hd
  ·show wpAny_Name (wpAny_loadName_free I.ok.kind hk hc d8 fin fj) hd
theorem W2{i j pos}:PE X (.Constant (.int i) j pos) (tC (.int i)):=λ_ _ _ H _ I h=>wpAny_Constant_int ⟨.int i,H,q1v 0,⟨_,rfl⟩,h⟩
theorem Yg{b j pos}:PE X (.Constant (.bool b) j pos) (tC (.bl b)):=λ_ _ _ H _ I h=>Constant_bool ⟨.bl b,H,I,rfl,h⟩
theorem W3{j pos}:PE X (.Constant .none j pos) (tC .non):=λ_ _ _ H _ I h=>Constant_none ⟨.non,H,I,rfl,h⟩
theorem W4{x j pos}:PE X (.Constant (.str x) j pos) (tC (.str x)):=λ_ _ _ H _ I h=>Calls.Constant_str ⟨.str x,H,q1v 0,⟨_,rfl⟩,h⟩
def Gl(X:Cx)(x:Str):Prop:=X.env.kindOf x=a_ .globalImplicit
theorem sZ(I:Q_ s)(hg:Gl X x)(hm:X.mg x=a_ u)(h:Q u s)(hd:(x == ("__debug__" : Str))=false:=by decide):wpAny (g_ X) X.A (eval (.Name x pos) X.env) Q E s:=Calls.Name_function_global I.ok.kind hg (Calls.loadGlobal_global (by rw[I.ok.glob];show I.mod.glob.keeps I.bk) hm h) hd
theorem vG(I:Q_ s)(hg:Gl X x)(hm:X.mg x=b_)(hv:y1J x=a_ u)(h:Q u s)(hn:x≠"__name__" := by decide)(hd:(x == ("__debug__" : Str))=false:=by decide):wpAny (g_ X) X.A (eval (.Name x pos) X.env) Q E s:=by let⟨mb,h1,h2⟩:=I.mod.blt;show Calls.Name_function_global I.ok.kind hg (Calls.loadGlobal_builtin (by rw[I.ok.glob];show I.mod.glob.keeps I.bk) hm (by rw[I.ok.blt];show h1.keeps I.bk) ((h2 x hn).trans hv) h) hd
theorem N6(hg:Gl X x)(hm:X.mg x=a_ u)(r:RelV v u)(hd:(x == ("__debug__" : Str))=false:=by decide):PE X (.Name x pos) (tC v):=
 λ_ _ _ H _ I h=>sZ I hg hm ⟨v,H,I,r,h⟩ hd
theorem Tf(hg:Gl X x)(hm:X.mg x=b_)(hv:y1J x=a_ u)(r:RelV v u)(hn:x≠"__name__" := by decide)(hd:(x == ("__debug__" : Str))=false:=by decide):PE X (.Name x pos) (tC v):=
 λ_ _ _ H _ I h=>vG I hg hm hv ⟨v,H,I,r,h⟩ hn hd
variable{a b:x_}{tb:TE}{rest:z_ x_}
def ZY(t u:TT):TT:=λσ H Q=>t σ H λc H1=>if c=true then u σ H1 Q else Q false H1
def tOr(t u:TT):TT:=λσ H Q=>t σ H λc H1=>if c=true then Q true H1 else u σ H1 Q
def ZZ(t:TT):TT:=λσ H Q=>t σ H λc H1=>Q (!c) H1
theorem Tg(ha:PT X a tA):PW X (.BoolOp .And [a] pos) tA:=by
 intro wh P1 s σ H Q I h;refine isTrue_and (thn (ha P1 s σ H Q I h) λc s1 e=>?_);cases c with
 |true=>exact isTrue_and_nil e
 |false=>exact e
theorem W5(ha:PT X a tA):PW X (.BoolOp .Or [a] pos) tA:=by
 intro wh P1 s σ H Q I h;refine isTrue_or (thn (ha P1 s σ H Q I h) λc s1 e=>?_);cases c with
 |false=>exact isTrue_or_nil e
 |true=>exact e
theorem W6(ha:PT X a tA)(hb:PW X (.BoolOp .And (b::rest) pos) qe):PW X (.BoolOp .And (a::b::rest) pos) (ZY tA qe):=by
 intro wh P1 s σ H Q I h;refine isTrue_and (thn (q1w 0) λc s1 ⟨H1,I1,q1⟩=>?_);cases c with
 |true=>exact hb wh P1 s1 σ H1 Q I1 q1
 |false=>exact⟨H1,I1,q1⟩
theorem Yh(ha:PT X a tA)(hb:PW X (.BoolOp .Or (b::rest) pos) qe):PW X (.BoolOp .Or (a::b::rest) pos) (tOr tA qe):=by
 intro wh P1 s σ H Q I h;refine isTrue_or (thn (q1w 0) λc s1 ⟨H1,I1,q1⟩=>?_);cases c with
 |true=>exact⟨H1,I1,q1⟩
 |false=>exact hb wh P1 s1 σ H1 Q I1 q1
theorem W7(ha:PT X a tA):PT X (.UnaryOp .Not a pos) (ZZ tA):=by intro P1 s σ H Q I h;show isTrue_not (ha P1 s σ H (λc H1=>Q (!c) H1) I h)
theorem W8{op}{t:TE}(h:PE X a t):PE X (.BoolOp op [a] pos) t:=λP1 s σ H Q I hw=>BoolOp_one (q0t Q I hw)
def tIf(t:TT)(ta tb:TE):TE:=λσ H Q=>t σ H λc H1=>if c=true then ta σ H1 Q else tb σ H1 Q
theorem PL{c:x_}(hc:PT X c tA)(ha:PE X a ta)(hb:PE X b tb):PE X (.IfExp c a b pos) (tIf tA ta tb):=by
 intro P1 s σ H Q I h;refine wpAny_IfExp (thn (hc P1 s σ H _ I h) λd s1 ⟨H1,I1,q1⟩=>?_);cases d with
 |true=>exact ha P1 s1 σ H1 Q I1 q1
 |false=>exact hb P1 s1 σ H1 Q I1 q1
end
def SqL(K:yb)(H:Hp)(a:td)(xs:z_ V):Prop:=
 Rd H a (.lst xs)\/
  ∃(o:Obj)(its:q0l 0)(n:Nat),K.lookup a=a_ o/\o.cls=.type "list" /\ o.dict=b_/\o.data=.seq its n/\its.size<=yo/\bH xs its.toList
def SqT(K:yb)(H:Hp)(a:td)(xs:z_ V):Prop:=
 Rd H a (.tup xs)\/
  ∃(o:Obj)(its:q0l 0)(n:Nat),K.lookup a=a_ o/\o.cls=.type "tuple" /\ o.data=.seq its n/\its.size<=yo/\bH xs its.toList/\o.dict=b_
def zaa:r_->A_ V
 |.none=>a_ .non
 |.bool b=>a_ (.bl b)
 |.int i _=>d_ i
 |.str x _=>a_ (.str x)
 |.bytes b _=>a_ (.byt b)
 |.float b _=>a_ (.flt b)
 |.ref a=>c_ a
 |.type n=>a_ (.ty n)
 |_=>b_
theorem RelV.abs{x:V}(r:q1e u):zaa u=a_ x:=by
 cases x with
 |non=>cases r;rfl
 |bl _=>cases r;rfl
 |int _=>let⟨t,rfl⟩:=r;rfl
 |str _=>let⟨t,rfl⟩:=r;rfl
 |byt _=>let⟨t,rfl⟩:=r;rfl
 |flt _=>let⟨t,rfl⟩:=r;rfl
 |ref _=>cases r;rfl
 |ty _=>cases r;rfl
variable{y:V}
theorem RelV.inj{x:V}(r:q1e u)(q:RelV y u):x=y:=yx (r.abs.symm.trans q.abs)
theorem bH.inj:∀{xs ys:z_ V}{us:z_ r_},bH xs us->bH ys us->xs=ys
 |_,_,_,.nil,.nil=>rfl
 |_,_,_,.cons r t,.cons r' t'=>by rw[r.inj r',bH.inj t t']
variable{K:yb}
theorem SqL.of{xs:z_ V}(h:H a=a_ (.lst xs)):q1y a xs:=.inl (.inl h)
theorem SqT.of{xs:z_ V}(h:H a=a_ (.tup xs)):q1c a xs:=.inl (.inl h)
theorem Inv.list{xs:z_ V}(I:Q_ s)(h:SqL X.K H a xs):∃its:z_ r_,bH xs its/\PlainL s.heap a its.toArray/\xs.length<=yo:=by
 rcases h with h|⟨o,its,n,hk,hc,hd,hs,hz,r⟩
 ·let⟨z,its,n,r,e⟩:=h.ok I.hok;show⟨its,r,⟨_,n,e,rfl,rfl,rfl⟩,z⟩
 ·refine⟨its.toList,r,⟨o,n,I.kIn a o hk,hc,hd,k_ hs⟩,?_⟩;let e:=r.length;simp only[y15]at e;omega
theorem Inv.tuple{xs:z_ V}(I:Q_ s)(h:SqT X.K H a xs):∃its:z_ r_,bH xs its/\IsTup s.heap a its.toArray/\xs.length<=yo:=by
 rcases h with h|⟨o,its,n,hk,hc,hs,hz,r,_⟩
 ·let⟨z,its,r,p⟩:=h.ok I.hok;show⟨its,r,p.is,z⟩
 ·refine⟨its.toList,r,⟨o,I.kIn a o hk,hc,n,k_ hs⟩,?_⟩;let e:=r.length;simp only[y15]at e;omega
theorem Inv.list_inj{xs:z_ V}{ys:z_ V}(I:Q_ s)(h:SqL X.K H a xs)(h':SqL X.K H a ys):xs=ys:=by
 let⟨its,r,⟨o,n,e,_,_,d⟩,_⟩:=I.list h;let⟨its',r',⟨o',n',e',_,_,d'⟩,_⟩:=I.list h';rw[e]at e';cases e';rw[d]at d';injection d' with d1 _;have:its=its':=by simpa using congrArg Array.toList d1
 subst this;show r.inj r'
theorem Inv.tuple_inj{xs:z_ V}{ys:z_ V}(I:Q_ s)(h:SqT X.K H a xs)(h':SqT X.K H a ys):xs=ys:=by
 let⟨its,r,⟨o,e,_,n,d⟩,_⟩:=I.tuple h;let⟨its',r',⟨o',e',_,n',d'⟩,_⟩:=I.tuple h';rw[e]at e';cases e';rw[d]at d';injection d' with d1 _;have:its=its':=by simpa using congrArg Array.toList d1
 subst this;show r.inj r'
abbrev Cx.wish(X:Cx)(E:f_ 0):Cx:={ X with xe:=E}
abbrev Cx.nox(X:Cx):Cx:=X.wish λ_ _=>False
theorem Cx.Ok.wish(ok:X.Ok)(E:f_ 0):(X.wish E).Ok:=⟨ok.mod,ok.kind,ok.glob,ok.blt,ok.above,ok.inj,ok.has,ok.cab,ok.hd,ok.frames,ok.stk,ok.exf,ok.bs,ok.bsz,ok.noex,ok.exfs,ok.funs,ok.frf⟩
theorem Cx.Ok.unwish(ok:(X.wish E).Ok):X.Ok:=⟨ok.mod,ok.kind,ok.glob,ok.blt,ok.above,ok.inj,ok.has,ok.cab,ok.hd,ok.frames,ok.stk,ok.exf,ok.bs,ok.bsz,ok.noex,ok.exfs,ok.funs,ok.frf⟩
theorem Inv.wish(I:Q_ s)(E:f_ 0):Inv (X.wish E) P1 σ H s:=⟨I.ok.wish E,I.os,I.bare,I.base,I.loc,I.cell,I.free,I.freeC,I.pin,I.hok,I.len⟩
theorem Inv.unwish(I:Inv (X.wish E) P1 σ H s):Q_ s:=⟨I.ok.unwish,I.os,I.bare,I.base,I.loc,I.cell,I.free,I.freeC,I.pin,I.hok,I.len⟩
theorem SP.unwish{D:Ends}{f:Flow}(h:SP (X.wish E) P1 D f s'):SP X P1 D f s':=by
 cases f with
 |next=>let⟨σ',H',I,q⟩:=h;show⟨σ',H',I.unwish,q⟩
 |brk=>let⟨σ',H',I,q⟩:=h;show⟨σ',H',I.unwish,q⟩
 |cont=>let⟨σ',H',I,q⟩:=h;show⟨σ',H',I.unwish,q⟩
 |ret u=>let⟨v,σ',H',I,r,q⟩:=h;show⟨v,σ',H',I.unwish,r,q⟩
theorem PSs.nox{st:z_ y_}{t:TS}(h:PSs X.nox st t):PSs X st t:=λP1 s σ H D I hw=>y0R (q0t D (I.wish _) hw) (λ_ _ q=>q.unwish) λ_ _ z=>y0I z
variable{st:y_}{te:TE}{tc:TT}
section
variable{rest:z_ y_}{t u:TS}
def Yi:TS:=λD σ H=>D.nx σ H
def zab(t u:TS):TS:=λD σ H=>t { D with nx:=u D} σ H
theorem Th:PSs X [] Yi:=λ_ _ σ H _ I h=>wpAny_execs_nil ⟨σ,H,I,h⟩
theorem PM(h1:PS X st t)(h2:PSs X rest u):PSs X (st::rest) (zab t u):=by
 intro P1 s σ H D I h;refine wpAny_execs_cons (thn (h1 P1 s σ H { D with nx:=u D} I h) λf s1 q=>?_);cases f with
 |next=>let⟨σ',H',I',q⟩:=q;show h2 P1 s1 σ' H' D I' q
 |ret v=>exact q
 |brk=>exact q
 |cont=>exact q
theorem Ti(h1:PS X st t):PSs X [st] t:=by
 intro P1 s σ H D I h;refine wpAny_execs_cons (thn (h1 P1 s σ H D I h) λf s1 q=>?_);cases f with
 |next=>exact wpAny_execs_nil q
 |ret v=>exact q
 |brk=>exact q
 |cont=>exact q
theorem Inv.quiet(I:Q_ s):interactive X.env=false:=by simp[interactive,I.ok.kind]
def Yj(te:TE):TS:=λD σ H=>te σ H λ_ H1=>D.nx σ H1
theorem Tj(he:PE X e te)(hs:swapsWith e b_ pos.line X.env=pure false:=by rfl):PS X (.Expr e pos) (Yj te):=by intro P1 s σ H D I h;show wpAny_Expr_any (thn (he P1 s σ H _ I h) λv s1 ⟨x,H1,I1,r1,q1⟩=>⟨σ,H1,I1,q1⟩) I.quiet hs
def zac(te:TE):TS:=λD σ H=>te σ H D.rt
theorem W9(he:PE X e te):PS X (.Return (a_ e) pos) (zac te):=by intro P1 s σ H D I h;show wpAny_Return_some (thn (he P1 s σ H _ I h) λv s1 ⟨x,H1,I1,r1,q1⟩=>⟨x,σ,H1,I1,r1,q1⟩)
def zad(c:TT)(t u:TS):TS:=λD σ H=>c σ H λb H1=>if b=true then t D σ H1 else u D σ H1
theorem Yk{c:x_}{a b:z_ y_}(hc:PT X c tc)(ha:PSs X a t)(hb:PSs X b u):PS X (.If c a b pos) (zad tc t u):=by
 intro P1 s σ H D I h;refine wpAny_If (thn (hc P1 s σ H _ I h) λd s1 ⟨H1,I1,q1⟩=>?_);cases d with
 |true=>exact ha P1 s1 σ H1 D I1 q1
 |false=>exact hb P1 s1 σ H1 D I1 q1
end
abbrev TG:=V->St->Hp->(St->Hp->Prop)->Prop
abbrev TGs:=z_ V->St->Hp->(St->Hp->Prop)->Prop
def PG(X:Cx)(target:x_)(t:TG):Prop:=
 ∀(P1:gV 0)(s:s_)(σ:St)(H:Hp)(v:V)(u:r_)(Q:St->Hp->Prop),Q_ s->RelV v u->t v σ H Q->
  wpAny (g_ X) X.A (assign target X.env u) (λ_ s'=>∃σ' H',q0_ s'/\Q σ' H') X.xe s
def PGs(X:Cx)(ts:z_ x_)(t:TGs):Prop:=
 ∀(P1:gV 0)(s:s_)(σ:St)(H:Hp)(vs:z_ V)(us:z_ r_)(Q:St->Hp->Prop),Q_ s->bH vs us->t vs σ H Q->
  wpAny (g_ X) X.A (assignInOrder ((y1I ts X.env).map (·.2)) us) (λ_ s'=>∃σ' H',q0_ s'/\Q σ' H') X.xe s
abbrev zae:=V->V->V->Hp->(Hp->Prop)->Prop
def zaf(X:Cx)(t:zae):Prop:=
 ∀(P1:gV 0)(s:s_)(σ:St)(H:Hp)(o i v:V)(ov iv u:r_)(Q:Hp->Prop),Q_ s->RelV o ov->RelV i iv->RelV v u->t o i v H Q->
  wpAny (g_ X) X.A (setItem ov iv u) (λ_ s'=>∃H',j_ H' s'/\Q H') X.xe s
def PN(i:Nat):TG:=λv σ H Q=>Q (σ.set i (a_ v)) H
theorem Tn(hN:X.N.Nodup)(hi:X.N[i]?=a_ x)(hx:Loc X.env.scope x)(hf:X.fn x=true\/q0c 0=a_ .local:=by first|exact .inl rfl|exact .inr rfl|assumption):PG X (.Name x pos) (PN i):=by intro P1 s σ H v u Q I r h;show wpAny_assign_Name (Jv I hN hi hx r (λs' I'=>⟨_,H,I',h⟩) hf)
def zag:TGs:=λvs σ H Q=>vs=[]/\Q σ H
def Yl(t:TG)(u:TGs):TGs:=λvs σ H Q=>∃v r,vs=v::r/\t v σ H λσ' H'=>u r σ' H' Q
theorem To:PGs X [] zag:=by
 intro P1 s σ H vs us Q I r h;let⟨e,h⟩:=h;subst e;cases r
 show assignInOrder_nil ⟨σ,H,I,h⟩
variable{es:z_ x_}
theorem PP{t:TG}{u:TGs}(h1:PG X e t)(h2:PGs X es u)(hs:(y1I (e::es) X.env).map (·.2)=assign e X.env::(y1I es X.env).map (·.2):=by rfl):PGs X (e::es) (Yl t u):=by
 intro P1 s σ H vs us Q I r h;let⟨v,vr,e1,h⟩:=h;subst e1;cases r with
 |cons r rr=>rw[hs];refine assignInOrder_cons (thn (h1 P1 s σ H _ _ _ I r h) λ_ s1 ⟨σ1,H1,I1,q1⟩=>?_);show h2 P1 s1 σ1 H1 _ _ Q I1 rr q1
def Ym(K:yb)(n:Nat)(t:TGs):TG:=λv σ H Q=>∃a xs,v=.ref a/\q1c a xs/\xs.length=n/\t xs σ H Q
variable{n:Nat}
theorem W'{k:Nat}{t:TGs}(hc:X.calm=true)(h:PGs X es t)(hn:(y1I es X.env).length=n:=by rfl)(bp:(y1I es X.env).findIdx? (·.1)=b_:=by rfl):PG X (.Tuple es k pos) (Ym X.K n t):=by
 intro P1 s σ H v u Q I r hw;let⟨a,xs,e1,hq,hl,hw⟩:=hw;subst e1;cases r
 let⟨its,rv,ht,hz⟩:=I.tuple hq;refine assign_Tuple_tuple (I.ok.hd hc) ht (by simp[hn,<-hl,rv.length]) bp λh' hx=>?_;let I1:Q_ {s with heap:=h'}:=I.kept (t':=s.toks) λb o e=>hx b o (yt (yj e)) e;show h P1 _ σ H xs _ Q I1 (k_ rv) hw
def Wa(te:TE)(g:TG):TS:=λD σ H=>te σ H λx H1=>g x σ H1 D.nx
variable{tg:x_}
theorem Wb{g:TG}(he:PE X e te)(hg:PG X tg g)(hs:swapsWithSole [tg] e pos.line X.env=pure false:=by rfl)(hw:swappedStores [tg] e X.env=pure b_:=by rfl)(h1:(y1I [tg] X.env).map (·.2)=[assign tg X.env]:=by rfl):PS X (.Assign [tg] e pos) (Wa te g):=by intro P1 s σ H D I h;refine wpAny_Assign_stores (thn (he P1 s σ H _ I h) λv s1 hz=>?_) hs hw;let⟨x,H1,I1,r1,q1⟩:=hz;rw[h1];show thn (hg P1 s1 σ H1 x v _ I1 r1 q1) λ_ s2 q=>q
variable{pos':Pos}
theorem Wc(hN:X.N.Nodup)(hi:X.N[i]?=a_ x)(hx:Loc X.env.scope x)(he:PE X e te)(hs:swapsWith e (a_ (.Name x pos')) pos.line X.env=pure false:=by rfl)(hf:X.fn x=true\/q0c 0=a_ .local:=by first|exact .inl rfl|exact .inr rfl|assumption):
  PS X (.Assign [.Name x pos'] e pos) (Wa te (PN i)):=by
 intro P1 s σ H D I h;refine wpAny_Assign_Name (thn (he P1 s σ H _ I h) λv s1 hz=>?_) hs;let⟨y,H1,I1,r1,q1⟩:=hz;show Jv I1 hN hi hx r1 (λs2 I2=>⟨_,H1,I2,q1⟩) hf
def Wd(c:TT)(tb:TS):TS:=λD σ H=>∃W:Nat->St->Hp->Prop,(∃m,W m σ H)/\∀m σ H,W m σ H->
 c σ H λb H1=>if b=true then ∃N:St->Hp->Prop,(∀σ' H',N σ' H'->∃m',m'<m/\W m' σ' H')/\tb { D with nx:=N,ct:=N,bk:=D.nx} σ H1 else D.nx σ H1
variable{body:z_ y_}
theorem PQ{c:x_}{tb:TS}(hp:PassesOwn (g_ X) X.A X.env X.xe)(hc:PT X c tc)(hb:PSs X body tb):PS X (.While c body [] pos) (Wd tc tb):=by
 intro P1 s σ H D I h;let⟨W,⟨m0,w0⟩,turn⟩:=h;refine wpAny_While (codeAny_whileLoop (λn s'=>∃σ' H',q0_ s'/\W n σ' H') ?_ m0 ⟨σ,H,I,w0⟩);rintro n s1 ⟨σ1,H1,I1,w1⟩;refine y1T hp (thn (hc P1 s1 σ1 H1 _ I1 (turn n σ1 H1 w1)) λb s2 ⟨H2,I2,q2⟩=>?_);cases b with
 |true=>
  let⟨N,hN,q2⟩:=q2;rw[q0k 0];refine y1T hp (thn (hb P1 s2 σ1 H2 _ I2 q2) λf s3 q3=>?_);cases f with
  |next=>let⟨σ3,H3,I3,n3⟩:=q3;let⟨m',hm,w3⟩:=hN σ3 H3 n3;show⟨m',hm,σ3,H3,I3,w3⟩
  |cont=>let⟨σ3,H3,I3,n3⟩:=q3;let⟨m',hm,w3⟩:=hN σ3 H3 n3;show⟨m',hm,σ3,H3,I3,w3⟩
  |brk=>exact q3
  |ret v=>exact q3
 |false=>rw[if_neg yl];show wpAny_execs_nil ⟨σ1,H2,I2,q2⟩
structure It where
 go:Nat->Hp->Prop
 yld:Nat->Hp->V->Hp->Prop
 stop:Nat->Hp->Prop
def Jw(X:Cx)(P1:gV 0)(H:Hp)(b:td):Prop:=H b=b_/\b≠X.env.locals/\b∉X.fs/\(b∈X.ex\/X.s₀.heap.objs.size<=b)/\(∀x c,S_ 0=a_ c->c≠b)/\∀p∈X.pn++P1,p.1≠b
theorem Inv.fpOk{b:td}(I:Q_ s)(hb:(e_ s)<=b)(hn:H' b=b_):Jw X P1 H' b:=by
 refine⟨hn,y0x (y3 I.lt hb),I.nofs hb,.inr (ze I.sz hb),λx c e z=>?_,λp hp z=>?_⟩
 ·let⟨v,q⟩:=I.cell x c e;show absurd (y3 q.lt (by rw[z];show hb)) (y0P _)
 ·show absurd (y3 (yj (I.pin p hp).1) (by rw[z];show hb)) (y0P _)
structure Turn(P:w_)(w:w4)(K:yb)(tg:x_)(J:It)(fp:z_ td)(it:td)(tn:Nat->v_->Prop):Prop where
 mem:it∈fp
 obj:∀i h,tn i h->∀b∈fp,∃o,h.get? b=some o/\∀v,o.data≠.cell v
 keep:∀i h h',tn i h->(∀b∈fp,∀o,h.get? b=some o->h'.get? b=some o)->tn i h'
 item:∀(X:Cx),X.prog=P->X.w=w->X.K=K->X.calm=true->∀(i:Nat)(P1:gV 0)(s:s_)(σ:St)(H:Hp)(E:f_ 0),Inv X P1 σ H s->(∀b∈fp,Jw X P1 H b)->tn i s.heap->J.go i H->
  wpAny (model P w) X.A (pyNext (.ref it)) (λr s1=>∃u,r=some u/\
   wpAny (model P w) X.A (letOwnedTupleGo tg (.ref it) u) (λ_ s2=>∃x H',Inv X P1 σ H' s2/\RelV x u/\J.yld i H x H'/\tn (i+1) s2.heap/\∀b∈fp,H' b=none) E s1) E s
 done:∀(X:Cx),X.prog=P->X.w=w->X.K=K->X.calm=true->∀(i:Nat)(P1:gV 0)(s:s_)(σ:St)(H:Hp)(E:f_ 0),Inv X P1 σ H s->(∀b∈fp,Jw X P1 H b)->tn i s.heap->J.stop i H->
  wpAny (model P w) X.A (pyNext (.ref it)) (λr s1=>r=none/\Inv X P1 σ H s1) E s
 self:∀(A:u_)(i:Nat)(s:s_)(Q:f_ 0)(E:f_ 0),tn i s.heap->Q (.ref it) s->wpAny (model P w) A (pyIter (.ref it)) Q E s
abbrev TI:=St->Hp->(It->Hp->Prop)->Prop
def PIE(X:Cx)(P1:gV 0)(σ:St)(tg:x_)(R:It->Hp->Prop)(sk:r_)(s2:s_):Prop:=
 ∃(it:td)(fp:z_ td)(tn:Nat->v_->Prop)(J:It)(H':Hp),sk=.ref it/\j_ H' s2/\Turn X.prog X.w X.K tg J fp it tn/\tn 0 s2.heap/\(∀b∈fp,Jw X P1 H' b)/\R J H'
def PI(X:Cx)(tg iter:x_)(wi:TI):Prop:=
 ∀(P1:gV 0)(s:s_)(σ:St)(H:Hp)(R:It->Hp->Prop),Q_ s->wi σ H R->
  wpAny (g_ X) X.A (eval iter X.env) (λv s1=>wpAny (g_ X) X.A (pyIter v) (PIE X P1 σ tg R) X.xe s1) X.xe s
theorem N7{o:Obj}{n:String}{vs:q0l 0}{Q:jn Unit}(ho:s.heap.get? it=a_ o)(hc:o.cls=.type n)(hd:o.data=.fields vs)(hn:["enumerate","zip","dict_itemiterator","dict_reverseitemiterator","odict_iterator","itertools.zip_longest","itertools.pairwise"].contains n=false)(hQ:Q () s):wpAny M A (letOwnedTupleGo tg (.ref it) u) Q E s:=by
 unfold letOwnedTupleGo;cases tg <;> first
  |exact xw hQ
  | (cases u <;> first
    |exact xw hQ
    | (refine xr (wpAny_load ho ?_)
       rw[hc,hd]
       change wpAny M A (if(["enumerate","zip","dict_itemiterator","dict_reverseitemiterator","odict_iterator","itertools.zip_longest","itertools.pairwise"].contains n&&vs[0]? == a_ (rawInt _))=true then _ else _) Q E s
       rw[if_neg (by intro h;rw[hn,Bool.false_and]at h;cases h)];show xw hQ))
def Itl(K:yb)(a:td):It:=⟨λi H=>∃xs x,q1y a xs/\xs[i]?=a_ x,λi H x H'=>H'=H/\∀xs,q1y a xs->xs[i]?=a_ x,λi H=>∃xs,q1y a xs/\xs.length<=i⟩
def Itt(K:yb)(a:td):It:=⟨λi H=>∃xs x,q1c a xs/\xs[i]?=a_ x,λi H x H'=>H'=H/\∀xs,q1c a xs->xs[i]?=a_ x,λi H=>∃xs,q1c a xs/\xs.length<=i⟩
def Itr(lo:Int)(n:Nat):It:=⟨λi _=>i<n,λi H x H'=>H'=H/\x=.int (lo+i),λi _=>n<=i⟩
theorem GB(a it:td):Turn P w K tg (Itl K a) [it] it (λi h=>h.IsListIter it a i) where
 mem:=by simp
 obj:=λi h st b hb=>by
  let e:b=it:=by simpa using hb
  subst e;let⟨o,e,c,d⟩:=st;show⟨o,e,λv z=>by rw[d]at z;cases z⟩
 keep:=λi h h' st k=>st.at λo e=>k it (by simp) o e
 item:=by
  intro X hP hw hK hc i P1 s σ H E I hf st hg;subst hP hw hK;let⟨xs,x,hq,hx⟩:=hg;let⟨its,rv,p,hz⟩:=I.list hq;let⟨u,hu,ru⟩:=rv.get hx;let⟨f0,f1,f2,f3,f4,f5⟩:=hf it (by simp);refine wpAny_pyNext_list_item st p.isList (x:=u) (k_ hu) λh' b7 sb=>?_;let I1:Q_ {s with heap:=h'}:=I.turned (t':=s.toks) (λb o hb e=>(sb.2 b hb).trans e) f0 f1 f3 f4 f5;let⟨o,e,c,d⟩:=id b7;show⟨u,rfl,N7 (s:={s with heap:=h'}) e c d nofun ⟨x,H,I1,ru,⟨rfl,λys hy=>by rw[I.list_inj hy hq];show hx⟩,b7,λb hb=>(hf b hb).1⟩⟩
 done:=by intro X hP hw hK hc i P1 s σ H E I hf st hg;subst hP hw hK;let⟨xs,hq,hx⟩:=hg;let⟨its,rv,p,hz⟩:=I.list hq;let⟨f0,f1,f2,f3,f4,f5⟩:=hf it (by simp);let hl:=rv.length;show wpAny_pyNext_list_end (I.ok.hd hc) st p.isList (by simp;omega) λh' eb=>⟨rfl,I.turned (t':=s.toks) (λb o hb e=>eb b o hb e) f0 f1 f3 f4 f5⟩
 self:=λ_ _ _ _ _ st h=>wpAny_pyIter_listiter st h
theorem Ls(a it:td):Turn P w K tg (Itt K a) [it] it (λi h=>h.IsTupleIter it a i) where
 mem:=by simp
 obj:=λi h st b hb=>by
  let e:b=it:=by simpa using hb
  subst e;let⟨o,e,c,d⟩:=st;show⟨o,e,λv z=>by rw[d]at z;cases z⟩
 keep:=λi h h' st k=>st.at λo e=>k it (by simp) o e
 item:=by
  intro X hP hw hK hc i P1 s σ H E I hf st hg;subst hP hw hK;let⟨xs,x,hq,hx⟩:=hg;let⟨its,rv,p,hz⟩:=I.tuple hq;let⟨u,hu,ru⟩:=rv.get hx;let⟨f0,f1,f2,f3,f4,f5⟩:=hf it (by simp);refine wpAny_pyNext_tuple_item st (show s.heap.IsTuple a its.toArray from p) (x:=u) (k_ hu) λh' b7 sb=>?_
  let I1:Q_ {s with heap:=h'}:=I.turned (t':=s.toks) (λb o hb e=>(sb.2 b hb).trans e) f0 f1 f3 f4 f5;let⟨o,e,c,d⟩:=id b7;show⟨u,rfl,N7 (s:={s with heap:=h'}) e c d nofun ⟨x,H,I1,ru,⟨rfl,λys hy=>by rw[I.tuple_inj hy hq];show hx⟩,b7,λb hb=>(hf b hb).1⟩⟩
 done:=by intro X hP hw hK hc i P1 s σ H E I hf st hg;subst hP hw hK;let⟨xs,hq,hx⟩:=hg;let⟨its,rv,p,hz⟩:=I.tuple hq;let⟨f0,f1,f2,f3,f4,f5⟩:=hf it (by simp);let hl:=rv.length;show wpAny_pyNext_tuple_end (I.ok.hd hc) st (show s.heap.IsTuple a its.toArray from p) (by simp;omega) λh' eb=>⟨rfl,I.turned (t':=s.toks) (λb o hb e=>eb b o hb e) f0 f1 f3 f4 f5⟩
 self:=λ_ _ _ _ _ st h=>wpAny_pyIter_tupleiter st h
theorem Lu(it:td)(lo:Int)(n:Nat):Turn P w K tg (Itr lo n) [it] it (λi h=>IsRangeIter h it (lo+(i:Nat)*1) ((n:Int)-(i:Nat)) 1) where
 mem:=by simp
 obj:=λi h st b hb=>by
  let e:b=it:=by simpa using hb
  subst e;show⟨_,st,λv z=>by let z':Data.fields _=Data.cell v:=z;cases z'⟩
 keep:=λi h h' st k=>k it (by simp) _ st
 item:=by
  intro X hP hw hK hc i P1 s σ H E I hf st hg;subst hP hw hK;let⟨f0,f1,f2,f3,f4,f5⟩:=hf it (by simp);let W:=Walks.range (prog:=X.prog) (w:=X.w) (I.ok.hd hc) it lo 1 n;refine W.item i s _ _ hg st λv h' tk hv b7 kk=>?_;let⟨t,rfl⟩:=hv;let I1:Q_ {s with heap:=h',toks:=tk}:=I.turned (λb o hb e=>kk b o (k_ hb) e) f0 f1 f3 f4 f5;refine⟨_,rfl,N7 (s:={s with heap:=h',toks:=tk}) (n:="range_iterator") b7 rfl rfl nofun ⟨.int (lo+i),H,I1,⟨t,?_⟩,⟨rfl,rfl⟩,b7,λb hb=>(hf b hb).1⟩⟩;rw[Int.mul_one]
 done:=by intro X hP hw hK hc i P1 s σ H E I hf st hg;subst hP hw hK;let⟨f0,f1,f2,f3,f4,f5⟩:=hf it (by simp);show wpAny_pyNext_range_end (I.ok.hd hc) st (by have:n<=i:=hg;omega) λh' eb=>⟨rfl,I.turned (t':=s.toks) (λb o hb e=>eb b o hb e) f0 f1 f3 f4 f5⟩
 self:=λ_ _ _ _ _ st h=>wpAny_pyIter_rangeiter st h
variable{tk:Nat}
theorem PR{R:It->Hp->Prop}{lo hi:Int}{t u v:Tok}(I:Q_ s)(h1:-(2 ^ 62)<=lo)(h2:lo<2 ^ 62)(h3:-(2 ^ 62)<=hi)(h4:hi<2 ^ 62)(q:R (Itr lo (hi-lo).toNat) H):wpAny (g_ X) X.A (pyIter (.ref (e_ s))) (PIE X P1 σ tg R) E {s with heap:=s.heap.push {cls:=.type "range",data:=.fields #[.int lo t,.int hi u,.int 1 v]},toks:=tk}:=by
 refine wpAny_pyIter_range (IsRange.new ..) (small_one h1 h2 h3 h4) ?_;let I1:Q_ {s with heap:=s.heap.push {cls:=.type "range",data:=.fields #[.int lo t,.int hi u,.int 1 v]},toks:=tk}:=I.kept λb o e=>yc _ e;refine⟨(s.heap.push {cls:=.type "range",data:=.fields #[.int lo t,.int hi u,.int 1 v]}).objs.size,[(s.heap.push {cls:=.type "range",data:=.fields #[.int lo t,.int hi u,.int 1 v]}).objs.size],_,_,H,rfl,
  I1.kept (t':=tk) λb o e=>yc _ e,Lu _ lo (hi-lo).toNat,?_,λb hb=>?_,q⟩
 ·let e1:lo+((0:Nat):Int)*1=lo:=by simp
  let e2:(((hi-lo).toNat:Nat):Int)-((0:Nat):Int)=Builtin.Range.rangeSize lo hi 1:=by rw[rangeSize_one];split <;> omega
  change IsRangeIter _ _ (lo+((0:Nat):Int)*1) ((((hi-lo).toNat:Nat):Int)-((0:Nat):Int)) 1
  rw[e1,e2];show q0O 0
 ·let e:b=(s.heap.push {cls:=.type "range",data:=.fields #[.int lo t,.int hi u,.int 1 v]}).objs.size:=by simpa using hb
  subst e;show I1.fpOk (yg _) (I1.hok.fresh (yg _))
def zah(wi:TI)(g:TG)(tb:TS):TS:=λD σ H=>wi σ H λJ H1=>∃W:Nat->Nat->St->Hp->Prop,(∃m,W 0 m σ H1)/\∀i m σ H,W i m σ H->
 (J.stop i H/\D.nx σ H)\/(J.go i H/\∃N:St->Hp->Prop,(∀σ' H',N σ' H'->∃m',m'<m/\W (i+1) m' σ' H')/\∀x H',J.yld i H x H'->g x σ H' λσ2 H2=>tb { D with nx:=N,ct:=N,bk:=D.nx} σ2 H2)
def DZ(fp:z_ td)(h:v_):gV 0:=fp.filterMap λb=>(h.get? b).map λo=>(b,o)
variable{fp:z_ td}
theorem tB{h:v_}{b:td}{o:Obj}(hb:b∈fp)(e:h.get? b=a_ o):(b,o)∈DZ fp h:=List.mem_filterMap.mpr ⟨b,hb,by rw[e];rfl⟩
theorem O4{h:v_}{p:td×Obj}(hp:p∈DZ fp h):p.1∈fp/\h.get? p.1=a_ p.2:=by
 let⟨b,hb,e⟩:=List.mem_filterMap.mp hp;cases q:h.get? b with
 |none=>rw[q]at e;cases e
 |some o=>rw[q]at e;let e':(b,o)=p:=yx e;subst e';show⟨hb,q⟩
theorem Inv.pinned(I:Q_ s)(hf:∀b∈fp,Jw X P1 H b)(ho:∀b∈fp,∃o,P2 0=a_ o/\∀v,o.data≠.cell v):Inv X (P1++DZ fp s.heap) σ H s:=I.pins_of λp hp=>(zf.mp hp).elim (λz=>I.pin p (yf _ z)) λz=>by let⟨hb,e⟩:=O4 z;let⟨f0,f1,f2,_⟩:=hf p.1 hb;let⟨o,e',d⟩:=ho p.1 hb;rw[e]at e';cases e';show⟨e,f0,f1,f2,d⟩
theorem Inv.unpinned{pl:gV 0}(I:Inv X (P1++pl) σ H s):Q_ s:=I.pins_of λp hp=>I.pin p (yf _ (z8 _ hp))
variable{iter:x_}{wi:TI}
theorem We{g:TG}{tb:TS}(hp:PassesOwn (g_ X) X.A X.env X.xe)(hc:X.calm=true)(hi:PI X tg iter wi)(hg:PG X tg g)(hb:PSs X body tb)(hs:∀x,y1y iter X.env x=pure x:=by intro _;rfl):PS X (.For tg iter body [] pos) (zah wi g tb):=by
 intro P1 s σ H D I h;refine wpAny_For (thn (hi P1 s σ H _ I h) λv s1 h1=>thn h1 λsk s2 h2=>?_) hs;let⟨it,fp,tn,J,H2,e,I2,T,qg,f2,W,⟨m0,w0⟩,turn⟩:=h2;subst e
 -- what stays true of the iterator's objects through the loop
 let kj:∀{H':Hp},(∀b∈fp,H' b=b_)->∀b∈fp,Jw X P1 H' b:=λhn b hb=>⟨hn b hb,(f2 b hb).2⟩;refine codeAny_forLoop_any (λn s'=>∃i σ' H',q0_ s'/\tn i s'.heap/\(∀b∈fp,H' b=b_)/\W i n σ' H') ?_ m0 ⟨0,σ,H2,I2,qg,λb hb=>(f2 b hb).1,w0⟩;rintro n s3 ⟨i,σ3,H3,I3,ng,fr3,w3⟩;rcases turn i n σ3 H3 w3 with⟨stop,qn⟩|⟨go,N,hN,step⟩
 ·refine y1T hp (thn (T.done X rfl rfl rfl hc i P1 s3 σ3 H3 X.xe I3 (kj fr3) ng stop) λr s4 ⟨hr,I4⟩=>?_);subst hr;show wpAny_execs_nil ⟨σ3,H3,I4,qn⟩
 ·refine y1T hp (thn (T.item X rfl rfl rfl hc i P1 s3 σ3 H3 X.xe I3 (kj fr3) ng go) λr s4 ⟨u,hr,h4⟩=>?_);subst hr;refine y1T hp (thn h4 λ_ s5 hz=>?_);let⟨x,H5,I5,r5,y5,mx,ik⟩:=hz;let I5':=I5.pinned (kj ik) (T.obj _ _ mx);refine y1T hp (thn (hg _ s5 σ3 H5 x u _ I5' r5 (step x H5 y5)) λ_ s6 ⟨σ6,H6,I6,q6⟩=>?_);refine y1T hp (thn (hb _ s6 σ6 H6 _ I6 q6) λf s7 q7=>?_);let again:∀{σ7:St}{H7:Hp},Inv X (P1++DZ fp s5.heap) σ7 H7 s7->N σ7 H7->∃m,m<n/\∃i σ' H',q0_ s7/\tn i s7.heap/\(∀b∈fp,H' b=b_)/\W i m σ' H':=λ{σ7 H7} I7 n7=>by let⟨m',hm,w7⟩:=hN σ7 H7 n7;refine⟨m',hm,i+1,σ7,H7,I7.unpinned,T.keep _ _ _ mx λb hb o e=>(I7.pin (b,o) (yf _ (yf _ (tB hb e)))).1,λb hb=>?_,w7⟩;let⟨o,e,d⟩:=T.obj _ _ mx b hb;show(I7.pin (b,o) (yf _ (yf _ (tB hb e)))).2.1
  cases f with
  |next=>let⟨σ7,H7,I7,n7⟩:=q7;show again I7 n7
  |cont=>let⟨σ7,H7,I7,n7⟩:=q7;show again I7 n7
  |brk=>let⟨σ7,H7,I7,q7⟩:=q7;show⟨σ7,H7,I7.unpinned,q7⟩
  |ret v=>let⟨x7,σ7,H7,I7,r7,q7⟩:=q7;show⟨x7,σ7,H7,I7.unpinned,r7,q7⟩
abbrev R2:=V->V->Hp->VK->Prop
def OpR(X:Cx)(f:r_->r_->Sem r_)(r:R2):Prop:=
 ∀(P1:gV 0)(s:s_)(σ:St)(H:Hp)(x y:V)(v u:r_)(Q:VK),Q_ s->q1e v->RelV y u->r x y H Q->
  wpAny (g_ X) X.A (f v u) (q0g Q) X.xe s
def gQ(X:Cx)(f:r_)(r:z_ V->Hp->VK->Prop):Prop:=
 ∀(P1:gV 0)(s:s_)(σ:St)(H:Hp)(xs:z_ V)(us:z_ r_)(Q:VK),Q_ s->bH xs us->r xs H Q->
  wpAny (g_ X) X.A (call f us) (q0g Q) X.xe s
def zai(X:Cx)(r:V->Hp->(Bool->Hp->Prop)->Prop):Prop:=
 ∀(P1:gV 0)(s:s_)(σ:St)(H:Hp)(x:V)(v:r_)(Q:Bool->Hp->Prop),Q_ s->q1e v->r x H Q->
  wpAny (g_ X) X.A (truthy v) (TP X P1 σ Q) X.xe s
def tOp(r:R2)(ta tb:TE):TE:=λσ H Q=>ta σ H λx H1=>tb σ H1 λy H2=>r x y H2 Q
def rI(C:Int->Int->Prop)(g:Int->Int->V):R2:=λx y H Q=>∃i j,x=.int i/\y=.int j/\C i j/\Q (g i j) H
def rI0(g:Int->Int->V):R2:=λx y H Q=>∃i j,x=.int i/\y=.int j/\Q (g i j) H
variable{f:r_->r_->Sem r_}{g:Int->Int->Int}
section
variable{a b c:x_}{tb tc:TE}
theorem Wg(ha:PE X a ta)(hb:PE X b tb){R:V->V->Hp->Prop}(I:Q_ s)(h:ta σ H λx H1=>tb σ H1 λy H2=>R x y H2)(hf:∀v u s2 x y H2,j_ H2 s2->q1e v->RelV y u->R x y H2->wpAny (g_ X) X.A (f v u) Q X.xe s2):
  wpAny (g_ X) X.A (eval a X.env) (λv s₁=>wpAny (g_ X) X.A (eval b X.env) (λu s₂=>wpAny (g_ X) X.A (f v u) Q X.xe s₂) X.xe s₁) X.xe s:=by
 refine thn (q1w 0) λv s1 hz=>?_;let⟨x,H1,I1,r1,q1⟩:=hz;refine thn (hb P1 s1 σ H1 _ I1 q1) λu s2 hz=>?_;let⟨y,H2,I2,r2,q2⟩:=hz;show hf v u s2 x y H2 I2 r1 r2 q2
theorem Yn{op:Operator}{r:R2}(ho:q0C (y0Q op) r)(ha:PE X a ta)(hb:PE X b tb):PE X (.BinOp a op b pos) (tOp r ta tb):=by intro P1 s σ H Q I h;show wpAny_BinOp (Wg ha hb I h λv u s2 x y H2 I2 rx ry q=>ho P1 s2 σ H2 x y v u Q I2 rx ry q)
theorem opI{C:Int->Int->Prop}(rule:∀(i j:Int)(t u:Tok)(s:s_)(Q:f_ 0)(E:f_ 0),C i j->Q (.int (g i j) s.toks) { s with toks:=s.toks+1}->wpAny (g_ X) X.A (f (.int i t) (.int j u)) Q E s):
  q0C f (rI C λi j=>.int (g i j)):=by
 intro P1 s σ H x y v u Q I rx ry h;let⟨i,j,rfl,rfl,hc,q⟩:=h;let⟨t,rfl⟩:=rx;let⟨t',rfl⟩:=ry;show rule i j t t' s _ _ hc ⟨.int (g i j),H,q1v 0,⟨_,rfl⟩,q⟩
theorem Yo(rule:∀(i j:Int)(t u:Tok)(s:s_)(Q:f_ 0)(E:f_ 0),Q (.int (g i j) s.toks) { s with toks:=s.toks+1}->wpAny (g_ X) X.A (f (.int i t) (.int j u)) Q E s):
  q0C f (rI0 λi j=>.int (g i j)):=by
 intro P1 s σ H x y v u Q I rx ry h;let⟨i,j,rfl,rfl,q⟩:=h;let⟨t,rfl⟩:=rx;let⟨t',rfl⟩:=ry;show rule i j t t' s _ _ ⟨.int (g i j),H,q1v 0,⟨_,rfl⟩,q⟩
theorem Wh{g:Int->Int->Bool}(rule:∀(i j:Int)(t u:Tok)(s:s_)(Q:f_ 0)(E:f_ 0),Q (.bool (g i j)) s->wpAny (g_ X) X.A (f (.int i t) (.int j u)) Q E s):
  q0C f (rI0 λi j=>.bl (g i j)):=by
 intro P1 s σ H x y v u Q I rx ry h;let⟨i,j,rfl,rfl,q⟩:=h;let⟨t,rfl⟩:=rx;let⟨t',rfl⟩:=ry;show rule i j t t' s _ _ ⟨.bl (g i j),H,I,rfl,q⟩
def PU(i j:Int):Prop:=0<j/\j<1073741824
def O5(i j:Int):Prop:=0<=j/\j<=1000000/\i.natAbs<2 ^ 64
def Jx(i j:Int):Prop:=(-(2 ^ 64)<i/\i<2 ^ 64)\/(-(2 ^ 64)<j/\j<2 ^ 64)
theorem Jx.ok{i j:Int}(h:Jx i j):IntMulOk i j:=by
 rcases h with⟨h1,h2⟩|⟨h1,h2⟩
 ·show .of_left (intBits_le_64 h1 h2)
 ·show .of_right (intBits_le_64 h1 h2)
theorem Wi:q0C (y0Q .Add) (rI0 λi j=>.int (i+j)):=Yo λ_ _ _ _ _ _ _ q=>add_int q
theorem Wj:q0C (y0Q .Sub) (rI0 λi j=>.int (i-j)):=Yo λ_ _ _ _ _ _ _ q=>sub_int q
theorem Wl:q0C (y0Q .Mult) (rI Jx λi j=>.int (i*j)):=opI λ_ _ _ _ _ _ _ hc q=>mul_int q hc.ok
theorem Tp:q0C (y0Q .FloorDiv) (rI PU λi j=>.int (i/j)):=opI λi j _ _ _ _ _ hc q=>by let h1:(0:Int)<j:=hc.1;let h2:j<1073741824:=hc.2;show floordiv_int ⋯ (by rw[Int.fdiv_eq_ediv_of_nonneg i ⋯];show q) (.inl (PyProof.noPylong_small ⋯))
theorem Wm:q0C (y0Q .Mod) (rI (λ_ j=>0<j) λi j=>.int (i%j)):=opI λi j _ _ _ _ _ hc q=>by let h1:(0:Int)<j:=hc;show mod_int' ⋯ (by rw[Int.fmod_eq_emod_of_nonneg i ⋯];show q)
theorem Wn:q0C (y0Q .Pow) (rI O5 λi j=>.int (i ^ j.toNat)):=opI λ_ _ _ _ _ _ _ hc q=>pow_int_small hc.1 hc.2.1 hc.2.2 q
end
variable{op:CmpOp}{its:z_ r_}
section
variable{a b c:x_}{tb tc:TE}
theorem E1{Q:VK}{k k':Bool}(I:Q_ s)(q:Q (.bl k) H)(e:k=k'):q0g Q (.bool k') s:=by subst e;show⟨.bl k,H,I,rfl,q⟩
theorem Yp:q0C (zc .Lt) (rI0 λi j=>.bl (decide (i<j))):=Wh λ_ _ _ _ _ _ _ q=>lt_int q
theorem Yq:q0C (zc .LtE) (rI0 λi j=>.bl (decide (i<=j))):=Wh λ_ _ _ _ _ _ _ q=>le_int q
theorem Yr:q0C (zc .Gt) (rI0 λi j=>.bl (decide (j<i))):=Wh λ_ _ _ _ _ _ _ q=>gt_int q
theorem O6:q0C (zc .Lt) (λx y H Q=>∃i j,x=.str i/\y=.str j/\Q (.bl (decide (i.cps.toList<j.cps.toList))) H):=by intro P1 s σ H x y v u Q I rx ry h;let⟨i,j,rfl,rfl,q⟩:=h;let⟨t,rfl⟩:=rx;let⟨t',rfl⟩:=ry;show lt_str (E1 I q rfl)
theorem Wo:q0C (zc .Is) (λx y H Q=>y=.non/\Q (.bl (decide (x=.non))) H):=by
 intro P1 s σ H x y v u Q I rx ry h;let⟨rfl,q⟩:=h;cases ry
 refine is_none_gen (E1 I q ?_);cases x <;> first
  |(cases rx;rfl)
  |(let⟨t,rfl⟩:=rx;rfl)
theorem Tq:q0C (zc .IsNot) (λx y H Q=>y=.non/\Q (.bl (!decide (x=.non))) H):=by
 intro P1 s σ H x y v u Q I rx ry h;let⟨rfl,q⟩:=h;cases ry
 refine isnot_none_gen (E1 I q ?_);cases x <;> first
  |(cases rx;rfl)
  |(let⟨t,rfl⟩:=rx;rfl)
theorem OpR.or{r r':R2}(h:q0C f r)(h':q0C f r'):q0C f (λx y H Q=>r x y H Q\/r' x y H Q):=by
 intro P1 s σ H x y v u Q I rx ry q;rcases q with q|q
 ·show q0t x y v u Q I rx ry q
 ·show h' P1 s σ H x y v u Q I rx ry q
theorem PY(b:x_)(h:op≠.In:=by decide)(h2:op≠.NotIn:=by decide):behindInMarks op b=false:=by
 let e1:(op == CmpOp.In)=false:=by cases op <;> first|rfl|exact absurd rfl h
 let e2:(op == CmpOp.NotIn)=false:=by cases op <;> first|rfl|exact absurd rfl h2
 cases b <;> simp[behindInMarks,e1,e2]
theorem Tr{r:R2}(ho:q0C (zc op) r)(ha:PE X a ta)(hb:PE X b tb)(hm:behindInMarks op b=false):PE X (.Compare a [op] [b] pos) (tOp r ta tb):=by intro P1 s σ H Q I h;show wpAny_Compare1 (Wg ha hb I h λv u s2 x y H2 I2 rx ry q=>ho P1 s2 σ H2 x y v u Q I2 rx ry q) hm
def Ts(K:yb)(x:V)(H:Hp)(k:Bool):Prop:=
 match x with
 |.non=>k=false
 |.bl b=>k=b
 |.int i=>k=(i != 0)
 |.str y=>y.length<=yo/\k=((y.length:Int) != 0)
 |.byt y=>y.size<=yo/\k=((y.size:Int) != 0)
 |.ref p=>(∃xs,q1y p xs/\k=!xs.isEmpty)\/(∃xs,q1c p xs/\k=!xs.isEmpty)\/∃kvs,H p=a_ (.dK kvs)/\k=!kvs.isEmpty
 |_=>False
theorem Lv{κ:Type}{kvs:z_ (κ×V)}{vs:z_ (κ×r_)}(r:KV kvs vs):(!vs.isEmpty)=!kvs.isEmpty:=by cases r <;> rfl
theorem E2{xs:z_ V}(r:bH xs its):(!its.toArray.isEmpty)=!xs.isEmpty:=by cases r <;> simp
theorem yY:(yo:Nat)<2 ^ 63:=by rw[zr];decide
theorem PZ:zai X (λx H Q=>∃k,Ts X.K x H k/\Q k H):=by
 intro P1 s σ H x v Q I rx h;let⟨k,e,q⟩:=h;let hl:=yY;let hs:yo=16777216:=zr;cases x with
 |non=>
  cases rx
  let e':k=false:=e;subst e';show truthy_none ⟨H,I,q⟩
 |bl b=>
  cases rx
  let e':k=b:=e;subst e';show y1U ⟨H,I,q⟩
 |int i=>let⟨t,rfl⟩:=rx;let e':k=(i != 0):=e;subst e';show PySem.P.truthy_int ⟨H,I,q⟩
 |str y=>let⟨t,rfl⟩:=rx;obtain⟨hy,e'⟩:y.length<=yo/\k=((y.length:Int) != 0):=e;subst e';show PySem.P.truthy_str ⋯ ⟨H,q1v 0,q⟩
 |byt y=>let⟨t,rfl⟩:=rx;obtain⟨hy,e'⟩:y.size<=yo/\k=((y.size:Int) != 0):=e;subst e';show PySem.W.truthy_bytes ⋯ ⟨H,q1v 0,q⟩
 |ref p=>
  cases rx
  let e':(∃xs,SqL X.K H p xs/\k=!xs.isEmpty)\/(∃xs,SqT X.K H p xs/\k=!xs.isEmpty)\/∃kvs,H p=a_ (.dK kvs)/\k=!kvs.isEmpty:=e;rcases e' with⟨xs,hx,e'⟩|⟨xs,hx,e'⟩|⟨kvs,hx,e'⟩
  ·subst e';let⟨its,r,pl,hz⟩:=I.list hx;let hlen:=r.length;show wpAny_truthy_list pl.isList (by simp only[yn];omega) ⟨H,q1v 0,by rw[E2 r];show q⟩
  ·subst e';let⟨its,r,pl,hz⟩:=I.tuple hx;let hlen:=r.length;show truthy_tuple pl (by simp only[yn];omega) ⟨H,q1v 0,by rw[E2 r];show q⟩
  ·subst e';obtain⟨hz,hS,vs,r,m⟩:kvs.length<=yo/\(p == y0o)=false/\∃vs,KV kvs vs/\s.heap.DictOf (cS X.prog X.w) p vs:=I.hok p _ hx;let hlen:kvs.length=vs.length:=y0b r;show wpAny_truthy_dict hS m ⋯ ⟨H,q1v 0,by rw[Lv r];show q⟩
 |_=>exact(show False from e).elim
theorem Q1(ha:PE X a ta)(he:∀whole,isTrue a X.env whole=(do let v <-whole;standAt a.pos;holding [v] (truthy v))):
  PT X a (λσ H Q=>ta σ H λx H'=>∃k,Ts X.K x H' k/\Q k H'):=by
 intro P1 s σ H Q I h
 exact isTrue_plain (thn (q1w 0) λv s1 ⟨x,H1,I1,r1,q1⟩=>PZ P1 s1 σ H1 x v Q I1 r1 q1) (he _)
theorem Lw:q0C (y0Q .Add) (λx y H Q=>∃i j,x=.str i/\y=.str j/\i.length+j.length<=yo/\Q (.str (i++j)) H):=by intro P1 s σ H x y v u Q I rx ry h;let⟨i,j,rfl,rfl,hz,q⟩:=h;let⟨t,rfl⟩:=rx;let⟨t',rfl⟩:=ry;show add_str (λt' tk=>⟨.str (i++j),H,q1v 0,⟨_,rfl⟩,q⟩) hz
theorem vals1{x:V}(r:bH [x] us):∃u,us=[u]/\q1e u:=by
 cases r with
 |cons r1 r2=>cases r2;show⟨_,rfl,r1⟩
theorem vals2{x:V}(r:bH [x,y] us):∃u w',us=[u,w']/\q1e u/\RelV y w':=by
 cases r with
 |cons r1 r2=>
  cases r2 with
  |cons r3 r4=>cases r4;show⟨_,_,rfl,r1,r3⟩
def zaj(K:yb)(x:V)(H:Hp)(n:Nat):Prop:=
 match x with
 |.str y=>y.length<=yo/\n=y.length
 |.byt y=>y.size<=yo/\n=y.size
 |.ref p=>(∃xs,q1y p xs/\n=xs.length)\/∃xs,q1c p xs/\n=xs.length
 |_=>False
theorem Q2:gQ X (.builtin "len") (λxs H Q=>∃x n,xs=[x]/\zaj X.K x H n/\Q (.int n) H):=by
 intro P1 s σ H xs us Q I r h;let⟨x,n,rfl,e,q⟩:=h;let⟨u,rfl,rx⟩:=vals1 r;let hl:=yY;let hs:yo=16777216:=zr;cases x with
 |str y=>let⟨t,rfl⟩:=rx;obtain⟨hy,e'⟩:y.length<=yo/\n=y.length:=e;subst e';show len_str ⋯ ⟨.int _,H,q1v 0,⟨_,rfl⟩,q⟩
 |byt y=>let⟨t,rfl⟩:=rx;obtain⟨hy,e'⟩:y.size<=yo/\n=y.size:=e;subst e';show PySem.W.len_bytes ⋯ ⟨.int _,H,q1v 0,⟨_,rfl⟩,q⟩
 |ref p=>
  cases rx
  let e':(∃xs,SqL X.K H p xs/\n=xs.length)\/∃xs,SqT X.K H p xs/\n=xs.length:=e;rcases e' with⟨xs,hx,e'⟩|⟨xs,hx,e'⟩
  ·subst e';let⟨its,r',pl,hz⟩:=I.list hx;let hlen:=r'.length;show Calls.call_len_list pl.isList (by simp only[yn];omega) ⟨.int xs.length,H,q1v 0,⟨_,by simp only[yn];rw[hlen]⟩,q⟩
  ·subst e';let⟨its,r',pl,hz⟩:=I.tuple hx;let hlen:=r'.length;show len_tuple pl (by simp only[yn];omega) ⟨.int xs.length,H,q1v 0,⟨_,by simp only[yn];rw[hlen]⟩,q⟩
 |_=>exact(show False from e).elim
end
structure Lx(h:v_)(x dx C:td)(mA:n_ 0):Prop where
 obj:h.get? x=some (y1B C dx)
 ns:h.Ns1 dx mA
 ne:dx≠x
variable{dx:td}{mA:n_ 0}
theorem O7{h:v_}(n:h.Ns1 dx mA):∃od,h.get? dx=a_ od/\∀name,PySem.W.lookIn name od=a_ (mA name):=by
 let⟨o,es,ep,ho,hd,hk,_,hm⟩:=n;refine⟨o,ho,λname=>?_⟩;let e:=hm name;unfold nsFind findBy at e;rw[<-Array.find?_toList]at e;unfold PySem.W.lookIn;rw[hd];dsimp only;split
 ·rename_i y q;rw[q]at e;show congrArg a_ e
 ·rename_i q;rw[q]at e;let a:es.toList.any (·.refKey)=false:=by rw[List.any_eq_false];intro y hy;let⟨z,t,g8⟩:=hk y (Array.mem_toList_iff.mp hy);simp[DictEntry.refKey,g8]
  let a':¬ es.toList.any (·.refKey)=true:=by rw[a];show yl
  rw[if_neg a'];show congrArg a_ e
theorem Lx.look{h:v_}{x C:td}(I:Lx h x dx C mA):∃od,PySem.W.InstAt h x (y1B C dx) C (a_ od)/\∀name,PySem.W.lookIn name od=a_ (mA name):=
 let ⟨od,ho,hl⟩:=O7 I.ns
 ⟨od,⟨I.obj,rfl,rfl,ho⟩,hl⟩
variable{expr:Bool}{name:Str}{prog:w_}{R:jn Result}{kw:z_ (Str×r_)}
section
variable{x C f:td}{v:r_}
theorem get_map(X:K.In s.heap)(I:Lx s.heap x dx C mA)(hg:y0q K C name=true)(hh:y0u K C=true)(ha:q1k (.ref C) name=a_ b_)(hv:mA name=a_ v)(hv':PySem.W.handedIn v=true)(h:Q v { s with toks:=s.toks+1}):
  C_ (getAttr (.ref x) name expr) Q E s:=by
 let⟨od,J,hl⟩:=I.look;show PySem.W.get_value X J (PySem.W.plainGet_of hg).1 (PySem.W.findObj_own hh ha rfl (by rw[hl,hv])) hv' h
theorem Q3{pl:Sem Bool}{Q:r_×z_ r_->s_->Prop}(X:K.In s.heap)(I:Lx s.heap x dx C mA)(hg:y0q K C name=true)
  (hf:q1k (.ref C) name=a_ (c_ f)) (ht:PySem.W.isFn K (.ref f)=true) (hv:mA name=b_) (h:Q (.ref f,[.ref x]) s):
  C_ (getMethod (.ref x) name pl) Q E s:=by
 let⟨od,J,hl⟩:=I.look;show PySem.W.method_fn X J (PySem.W.plainGet_of hg).1 (PySem.W.plainGet_of hg).2 hf (beq_iff_eq.mp ht) (by change(PySem.W.lookIn name od).map (·.isSome)=a_ false;rw[hl,hv];rfl) h
theorem Tt{ns:z_ Str}{Q:jn Unit}(X:K.In s.heap)(I:Lx s.heap x dx C mA)
  (hs:q1k (.ref C) "__setattr__" = a_ (a_ (.builtin "object.__setattr__"))) (hp:y0C K C=true) (ht:PySem.W.takerIn K C name=a_ b_) (hh:y0u K C=true)
  (hw:PySem.Within mA ns) (hsz:ns.length<=yo)
  (h:∀h',Lx h' x dx C (λy=>if y=name then a_ v else mA y)->y1w dx s.heap h'->Q () {s with heap:=h',toks:=s.toks+2}):
  C_ (setAttr (.ref x) name v) Q E s:=by
 let⟨od,J,hl⟩:=I.look;refine PySem.W.set_plain X J hs (PySem.W.osa_open (s:={ s with toks:=s.toks+1}) (r:=b_) X J hp ht λb=>?_);let⟨cd,hc,dr⟩:=PySem.W.any_some hh;let hx:s.heap.get? x=a_ ⟨.ref C,a_ dx,.plain,#[]⟩:=I.obj;refine xr (xw (xr (xr (wpAny_loadPart hx (xr (PySem.W.Looks.here (s:={ s with toks:=s.toks+1}) (PySem.W.looks_clsIn X hc) ?_))))));rw[dr];refine xw (a:=a_ dx) (xr (xw (xr ?_)));refine wpAny_nsSet1 (s:={ s with toks:=s.toks+1}) I.ns λh' ql vv=>?_;let⟨oD,esD,epD,hoD,hdD,hcD⟩:=ql.count (PySem.Within.cons name v hw);refine xr (wpAny_lookBehind hoD (by rw[hdD];show pastItsLine_dict (ze hcD (by rw[zt];omega))) ?_);show xw (h _ ⟨(vv.2 _ (y1o I.ne)).trans I.obj,ql,I.ne⟩ vv)
theorem Q4{vs:z_ r_}(X:K.In s.heap)(hm:y0L K C=true)(hi:q1k (.ref C) "__init__" = a_ (c_ f))(hf:PySem.W.typeIn K (.ref f)=a_ (.type "function"))(h:codeAny (model prog w) (A.under (.builtin "type.__call__" ⟨.ref C::vs,kw⟩)) (.call (.ref f) ⟨.ref (s.heap.objs.size+1)::vs,kw⟩) (PySem.W.InitBack (s.heap.objs.size+1) R)
   {s with heap:=(s.heap.push y0S).push (y1B C (e_ s))}):
  codeAny (model prog w) A (.call (.ref C) ⟨vs,kw⟩) R s:=by
 let⟨hh,g,d,t,os⟩:=s;show PySem.W.make_core (PySem.W.makes_of X hm) (PySem.W.looks_findIn X hi) (λself=>PySem.W.bind_fn X self hf) (.inl rfl) h
end
def rT(f:Str)(v:V):z_ (Str×V)->z_ (Str×V)
 |[]=>[(f,v)]
 |(g,x)::r=>if g=f then(g,v)::r else(g,x)::rT f v r
theorem Cv(f g:Str)(v:V):∀fs:z_ (Str×V),(rT f v fs).lookup g=if g=f then a_ v else fs.lookup g
 |[]=>by
  change y2B g [(f,v)]=_
  by_cases h:g=f
  ·let hb:(g == f)=true:=beq_iff_eq.mpr h;simp only[y2B,hb,if_pos h]
  ·let hb:(g == f)=false:=beq_eq_false_iff_ne.mpr h;simp only[y2B,hb,if_neg h]
 |(k,x)::r=>by
  let ih:=Cv f g v r;rw[show rT f v ((k,x)::r)=(if k=f then(k,v)::r else(k,x)::rT f v r) from rfl]
  by_cases hk:k=f
  ·rw[if_pos hk];by_cases h:g=k
   ·let hb:(g == k)=true:=beq_iff_eq.mpr h;simp only[y2B,hb,if_pos (h.trans hk)]
   ·let hb:(g == k)=false:=beq_eq_false_iff_ne.mpr h;simp only[y2B,hb,if_neg (λe:g=f=>h (e.trans hk.symm))]
  ·rw[if_neg hk];by_cases h:g=k
   ·let hb:(g == k)=true:=beq_iff_eq.mpr h;simp only[y2B,hb,if_neg (λe:g=f=>hk (h.symm.trans e))]
   ·let hb:(g == k)=false:=beq_eq_false_iff_ne.mpr h;simp only[y2B,hb];show ih
theorem Bm(f:Str)(v:V):∀fs:z_ (Str×V),f∈(rT f v fs).map (·.1)/\∀g,g∈fs.map (·.1)->g∈(rT f v fs).map (·.1)
 |[]=>⟨by simp[rT],λg h=>by simp at h⟩
 |(k,x)::r=>by
  let⟨i1,i2⟩:=Bm f v r;rw[show rT f v ((k,x)::r)=(if k=f then(k,v)::r else(k,x)::rT f v r) from rfl]
  by_cases hk:k=f
  ·rw[if_pos hk];subst hk;show⟨by simp,λg h=>by simpa using h⟩
  ·rw[if_neg hk];refine⟨?_,λg h=>?_⟩
   ·rw[yq];show yd _ i1
   ·rw[yq]at h⊢;rcases yr.mp h with e|e
    ·show yr.mpr (.inl e)
    ·show yd _ (i2 g e)
theorem Cw(f:Str)(v:V):∀fs:z_ (Str×V),(rT f v fs).length<=fs.length+1
 |[]=>by simp[rT]
 |(k,x)::r=>by
  let ih:=Cw f v r;rw[show rT f v ((k,x)::r)=(if k=f then(k,v)::r else(k,x)::rT f v r) from rfl]
  by_cases hk:k=f
  ·rw[if_pos hk,zt,zt];omega
  ·rw[if_neg hk,zt,zt];omega
theorem vB.some_of{o:A_ r_}(r:vB (a_ v) o):∃u,o=a_ u/\RelV v u:=by
 cases o with
 |none=>exact(show False from r).elim
 |some u=>exact⟨u,rfl,r⟩
theorem vB.none_of{o:A_ r_}(r:vB b_ o):o=b_:=by
 cases o with
 |none=>rfl
 |some u=>exact(show False from r).elim
theorem O8(r:RelV v u):PySem.W.handedIn u=true:=by
 cases v with
 |non=>cases(show u=yp from r);rfl
 |bl b=>cases(show u=Value.bool b from r);rfl
 |int i=>let⟨t,e⟩:=(show ∃t,u=Value.int i t from r);cases e;rfl
 |str x=>let⟨t,e⟩:=(show ∃t,u=Value.str x t from r);cases e;rfl
 |byt b=>let⟨t,e⟩:=(show ∃t,u=Value.bytes b t from r);cases e;rfl
 |flt b=>let⟨t,e⟩:=(show ∃t,u=Value.float b t from r);cases e;rfl
 |ref a=>cases(show u=y4 a from r);rfl
 |ty n=>cases(show u=y1H n from r);rfl
section
variable{h:v_}{C:td}{fs ja:z_ (Str×V)}
theorem Dy(hok:q1l h)(e:H a=a_ (.ins C dx fs)):∃mA,Lx h a dx C mA/\(∀f,vB (fs.lookup f) (mA f))/\PySem.Within mA (fs.map (·.1))/\fs.length<=1000/\H dx=a_ (.own a):=by
 let⟨d,z,ne,ob,mA,n,r,q⟩:=(show fD P w H h a (.ins C dx fs) from hok a _ e)
 show⟨mA,⟨ob,n,ne⟩,r,q,z,d⟩
end
structure Cls(K:yb)(C:td):Prop where
 pg:y0q K C y2D=true
 hd:y0u K C=true
 po:y0C K C=true
 sa:ya K (.ref C) "__setattr__" = some (some (.builtin "object.__setattr__"))
theorem Cls.get{C:td}(c:q0I C)(f:Str):y0q K C f=true:=c.pg
def tE(K:yb)(C:td)(f:Str):Prop:=q1k (.ref C) f=a_ b_
theorem tE.taker{C:td}{f:Str}(n:tE K C f):PySem.W.takerIn K C f=a_ b_:=by
 unfold PySem.W.takerIn;rw[show q1k (.ref C) f=a_ b_ from n]
 rfl
structure HK(K:yb)(C:td)(m:Str)(f:td):Prop where
 at_:ya K (.ref C) m=some (c_ f)
 fn:PySem.W.isFn K (.ref f)=true
 kp:Io K (.ref f)=true
variable{b:Bool}{env:Env}
section
variable{C:td}{fs:z_ (Str×V)}{f:Str}
theorem E3(I:Q_ s)(e:H a=a_ (.ins C dx fs))(c:Cls X.K C)(n:tE X.K C f)(l:fs.lookup f=a_ v)(h:∀u s',Q_ s'->RelV v u->Q u s'):wpAny (g_ X) A (getAttr (.ref a) f b) Q E s:=by let⟨mA,O,r,_,_,_⟩:=Dy I.hok e;let⟨u,hu,ru⟩:=vB.some_of (v:=v) (o:=mA f) (by rw[<-l];show r f);show get_map I.kIn O (c.get f) c.hd n hu (O8 ru) (h u _ (q1v 0) ru)
theorem E4{m:Str}{g:td}{pl:Sem Bool}{Q:r_×z_ r_->s_->Prop}(I:Q_ s)(e:H a=a_ (.ins C dx fs))(c:Cls X.K C)(k:HK X.K C m g)(l:fs.lookup m=b_)
  (h:Q (.ref g,[.ref a]) s):wpAny (g_ X) A (getMethod (.ref a) m pl) Q E s:=by
 let⟨mA,O,r,_,_,_⟩:=Dy I.hok e;let hn:mA m=b_:=vB.none_of (by rw[<-l];show r m);show Q3 I.kIn O (c.get m) k.at_ k.fn hn h
theorem E5{Q:jn Unit}(I:Q_ s)(e:H a=a_ (.ins C dx fs))(c:Cls X.K C)(n:tE X.K C f)(hl:fs.length<1000)(ry:RelV y u)(h:∀s',j_ (Z_ a (.ins C dx (rT f y fs))) s'->Q () s'):wpAny (g_ X) A (setAttr (.ref a) f u) Q E s:=by
 let⟨mA,O,r,wi,_,ho⟩:=Dy I.hok e;let hz:(fs.map (·.1)).length<=yo:=by rw[yh,zr];omega
 refine Tt I.kIn O c.sa c.po n.taker c.hd wi hz λh' O' sb=>h _ ?_;let hd:∃o,h'.get? dx=a_ o:=let ⟨o,_,_,e',_⟩:=O'.ns;⟨o,e'⟩;refine I.write (x:=a) (e:=dx) (by rw[e];show y08) (.inr ho) (λb q hb z=>(sb.2 b hb).trans z) hd ?_;refine⟨by rw[bA O.ne];show ho,?_,O.ne,O'.obj,_,O'.ns,λg=>?_,λg hg=>?_⟩
 ·have:=Cw f y fs;omega
 ·change vB ((rT f y fs).lookup g) (if g=f then a_ u else mA g)
  rw[Cv];by_cases q:g=f
  ·rw[if_pos q,if_pos q];show ry
  ·rw[if_neg q,if_neg q];show r g
 ·by_cases q:g=f
  ·rw[q];show(Bm f y fs).1
  ·refine(Bm f y fs).2 g (wi g λz=>hg ?_)
   change(if g=f then a_ u else mA g)=b_
   rw[if_neg q];show z
theorem Inv.made(I:Q_ s):j_ (upd (Z_ (e_ s) (.own (s.heap.objs.size+1))) (s.heap.objs.size+1) (.ins C (e_ s) []))
  {s with heap:=(s.heap.push y0S).push (y1B C (e_ s))}:=by
 let e1:(s.heap.push y0S).get? (e_ s)=a_ y0S:=ym s.heap rfl;let e2:((s.heap.push y0S).push (y1B C (e_ s))).get? (s.heap.objs.size+1)=a_ (y1B C (e_ s)):=by
  have:=ym (s.heap.push y0S) (o:=y1B C (e_ s)) rfl
  rwa[y1x]at this
 let e3:(s.heap.push y0S).Ns (e_ s) (λ_=>b_):=⟨y0S,#[],_,e1,rfl,(λe he=>absurd he (by simp)),λ_=>rfl⟩;let I1:=I.laid (a:=(e_ s)) (o:=.own (s.heap.objs.size+1)) (h':=s.heap.push y0S) (t':=s.toks) (λb u q=>yc _ q) (yg _) ⟨_,e1⟩;refine I1.laid (a:=(e_ s)+1) (o:=.ins C (e_ s) []) (t':=s.toks) (λb u q=>yc _ q) (Nat.le_of_eq (y1x _ _)) ?_;let ne:(e_ s)≠(e_ s)+1:=yt (Nat.lt_succ_self _);refine⟨by rw[bA ne,bP],y9 _,ne,e2,λ_=>b_,(Heap.Ns1.of_empty e3).at λo q=>yc _ q,λ_=>y08,λy hy=>absurd rfl hy⟩
theorem Tu{f:Str}(hb:y16 e f env (eval e env)=eval e env)(h:C_ (eval e env) (λo s₁=>C_ (getAttr o f true) Q E s₁) E s):C_ (eval (.Attribute e f pos) env) Q E s:=Attribute_any_ h (by rw[arm_eval_Attribute,hb])
end
def zak(K:yb)(ta:TE)(f:Str):TE:=λσ H Q=>ta σ H λx H1=>∃a C dx fs v,x=.ref a/\H1 a=a_ (.ins C dx fs)/\q0I C/\tE K C f/\fs.lookup f=a_ v/\Q v H1
def zal(K:yb)(ta tv:TE)(f:Str):TS:=λD σ H=>tv σ H λy H1=>ta σ H1 λx H2=>∃a C dx fs,x=.ref a/\H2 a=a_ (.ins C dx fs)/\q0I C/\tE K C f/\fs.length<1000/\
 D.nx σ (upd H2 a (.ins C dx (rT f y fs)))
def Ys(X:Cx)(op:Operator)(rd:V->V->Hp->VK->Prop):Prop:=
 ∀(P1:gV 0)(s:s_)(σ:St)(H:Hp)(x y:V)(u v:r_)(Q:VK),Q_ s->q1e u->RelV y v->rd x y H Q->wpAny (g_ X) X.A (inplaceOp op u v) (q0g Q) X.xe s
def Tv(K:yb)(ta tv:TE)(rd:V->V->Hp->VK->Prop)(f:Str):TS:=λD σ H=>ta σ H λx H1=>∃a C dx fs v,x=.ref a/\H1 a=a_ (.ins C dx fs)/\q0I C/\tE K C f/\fs.lookup f=a_ v/\
 tv σ H1 λy H2=>rd v y H2 λz H3=>∃ug ja,H3 a=a_ (.ins C ug ja)/\ja.length<1000/\D.nx σ (upd H3 a (.ins C ug (rT f z ja)))
theorem Wp{f:Str}(he:PE X e ta)(hb:y16 e f X.env (q0d 0)=q0d 0):PE X (.Attribute e f pos) (zak X.K ta f):=by intro P1 s σ H Q I h;refine Tu hb (thn (he P1 s σ H _ I h) λu s1 hz=>?_);let⟨x,H1,I1,rx,a,C,dx,fs,v,ex,ea,c,n,l,q⟩:=hz;subst ex;obtain rfl:u=y4 a:=rx;show E3 I1 ea c n l λu' s2 I2 ru=>⟨v,H1,I2,ru,q⟩
variable{tv:TE}{value:x_}
theorem Wq{o:x_}{f:Str}(ha:PE X o ta)(hv:PE X value tv)(hs:swapsWith value (a_ (.Attribute o f pos')) pos.line X.env=pure false):PS X (.Assign [.Attribute o f pos'] value pos) (zal X.K ta tv f):=by intro P1 s σ H D I h;refine plainObj_wpAny_Assign_Attribute (thn (hv P1 s σ H _ I h) λu s1 ⟨y,H1,I1,ry,q⟩=>thn (ha P1 s1 σ H1 _ I1 q) λov s2 hz=>?_) hs;let⟨x,H2,I2,rx,a,C,dx,fs,ex,ea,c,n,l,q2⟩:=hz;subst ex;obtain rfl:ov=y4 a:=rx;show E5 I2 ea c n l ry λs3 I3=>⟨σ,_,I3,q2⟩
variable{i9:Pos}
theorem O9{o:x_}{f:Str}{op:Operator}{rd:V->V->Hp->VK->Prop}(ha:PE X o ta)(hv:PE X value tv)(hop:Ys X op rd):PS X (.AugAssign (.Attribute o f i9) op value pos) (Tv X.K ta tv rd f):=by intro P1 s σ H D I h;refine wpAny_AugAssign_AttributeAny (thn (q1w 0) λov s1 hz=>?_);let⟨x,H1,I1,rx,a,C,dx,fs,v,ex,ea,c,n,l,q⟩:=hz;subst ex;obtain rfl:ov=y4 a:=rx;refine E3 I1 ea c n l λu s2 I2 ru=>thn (hv P1 s2 σ H1 _ I2 q) λw3 s3 ⟨y,H2,I3,ry,q3⟩=>thn (hop P1 s3 σ H2 v y u w3 _ I3 ru ry q3) λw4 s4 hz=>?_;let⟨z,H3,I4,rz,ug,ja,ea',l',q4⟩:=hz;show E5 I4 ea' c n l' rz λs5 I5=>⟨σ,_,I5,q4⟩
def zam:V->V->Hp->VK->Prop:=λx y H Q=>∃i j,x=.int i/\y=.int j/\Q (.int (i+j)) H
theorem Wr:Ys X .Add zam:=by
 rintro P1 s σ H x y u v Q I rx ry ⟨i,j,rfl,rfl,q⟩;let⟨t,rfl⟩:=(show ∃t,u=Value.int i t from rx)
 let⟨t',rfl⟩:=(show ∃t',v=Value.int j t' from ry)
 show PyProof.Rows.iadd_int ⟨.int (i+j),H,q1v 0,⟨_,rfl⟩,q⟩
inductive Bn(K:yb)(H:Hp):V->Value->Prop where
 |non:Bn K H .non (.type "NoneType")
 |bl (x:Bool):Bn K H (.bl x) (.type "bool")
 |int (i:Int):Bn K H (.int i) (.type "int")
 |str (x:Str):Bn K H (.str x) (.type "str")
 |flt (x:UInt64):Bn K H (.flt x) (.type "float")
 |lst {a:Addr} {xs:z_ V} (e:H a=some (.lst xs)):Bn K H (.ref a) (.type "list")
 |frz {a:Addr} {o:Obj} {xs:z_ V} (e:H a=some (.frz o (.lst xs))):Bn K H (.ref a) (.type "list")
 |tup {a:Addr} {xs:z_ V} (e:H a=some (.tup xs)):Bn K H (.ref a) (.type "tuple")
 |dK {a:Addr} {kvs:z_ (Key×V)} (e:H a=some (.dK kvs)):Bn K H (.ref a) (.type "dict")
 |dT {a:Addr} {kvs:z_ (z_ Key×V)} (e:H a=some (.dT kvs)):Bn K H (.ref a) (.type "dict")
 | ins {a C dx:Addr} {fs:z_ (Str×V)} (e:H a=some (.ins C dx fs)) (cl:Cls K C) (ha:ya K (.ref C) "__class__" = some (some (.builtin "object.__class__")))
   (hn:PySem.W.specialIn K (.builtin "object.__class__") "__get__" = some (some (.builtin "getset_descriptor.__get__"))) (htk:PySem.W.takesIn K (.builtin "object.__class__")=some true)
   (hm:PySem.W.mroIn K C (.type "object")=some true):Bn K H (.ref a) (.ref C)
theorem Oa{c:r_}{x:V}{t:r_}(I:Q_ s)(rx:q1e u)(ty:Bn X.K H x t)(e:PySem.W.kitOne X.K t c=a_ b)(h:∀tk,Q (.bool b) { s with toks:=tk}):
  wpAny (g_ X) A (call (.builtin "isinstance") [u,c]) Q E s:=by
 cases ty with
 |non=>cases(show u=yp from rx);show y0r PySem.W.kitx_none I.kIn y08 e (λz=>q0N 0) h
 |bl y=>cases(show u=Value.bool y from rx);show y0r PySem.W.kitx_bool I.kIn y08 e (λz=>q0N 0) h
 |int i=>let⟨t,q⟩:=(show ∃t,u=Value.int i t from rx);cases q;show y0r PySem.W.kitx_int I.kIn y08 e (λz=>q0N 0) h
 |str y=>let⟨t,q⟩:=(show ∃t,u=Value.str y t from rx);cases q;show y0r PySem.W.kitx_str I.kIn y08 e (λz=>q0N 0) h
 |flt y=>let⟨t,q⟩:=(show ∃t,u=Value.float y t from rx);cases q;show y0r PySem.W.kitx_float I.kIn y08 e (λz=>q0N 0) h
 | @lst a xs ea=>
  cases(show u=y4 a from rx)
  let⟨_,_,n,_,h1⟩:=(show q0x H s.heap a (.lst xs) from I.hok a _ ea)
  show y0r PySem.W.kitx_list I.kIn ⟨_,h1,rfl⟩ e (λz=>q0N 0) h
 | @frz a ob xs ea=>
  cases(show u=y4 a from rx)
  let⟨_,_,_,n,_,h1⟩:=(show q0x H s.heap a (.frz ob (.lst xs)) from I.hok a _ ea)
  show y0r PySem.W.kitx_list I.kIn ⟨_,h1,rfl⟩ e (λz=>q0N 0) h
 | @tup a xs ea=>
  cases(show u=y4 a from rx)
  let⟨_,_,_,p⟩:=(show q0x H s.heap a (.tup xs) from I.hok a _ ea)
  let⟨o,h1,h2,_⟩:=p;show y0r PySem.W.kitx_tuple I.kIn ⟨o,h1,h2⟩ e (λz=>q0N 0) h
 | @dK a kvs ea=>
  cases(show u=y4 a from rx)
  let⟨_,_,vs,_,p⟩:=(show q0x H s.heap a (.dK kvs) from I.hok a _ ea)
  let⟨o,es,ep,h1,h2,_⟩:=p;show y0r PySem.W.kitx_dict I.kIn ⟨o,h1,h2.1⟩ e (λz=>q0N 0) h
 | @dT a kvs ea=>
  cases(show u=y4 a from rx)
  let⟨_,_,xs,_,o,es,ep,h1,h2,_⟩:=(show q0x H s.heap a (.dT kvs) from I.hok a _ ea)
  show y0r PySem.W.kitx_dict I.kIn ⟨o,h1,h2.1⟩ e (λz=>q0N 0) h
 | @ins a C dx fs ea cl ha hn htk hm=>
  cases(show u=y4 a from rx)
  let⟨mA,O,_⟩:=Dy I.hok ea;let⟨od,J,_⟩:=O.look;show y0r (PySem.W.kitx_own (cl.get _) cl.hd ha hn htk hm) I.kIn J e (λz=>q0N 0) h
structure lV(k:Nat)(A:u_):Prop where
 hd:A.handled=none
 dp:A.depth+3*k+5<recursionLimit
 un:A.units+16*k+200<cLine
theorem lV.mono{k:Nat}(r:lV k A)(h:j<=k):lV j A:=⟨r.hd,by have:=r.dp;omega,by have:=r.un;omega⟩
theorem lV.deeper{k:Nat}(r:lV (k+1) A)(env:Env):lV k (A.deeper env):=⟨r.hd,by have:=r.dp;change A.depth+1+3*k+5<_;omega,by have:=r.un;change A.units+3+16*k+200<_;omega⟩
theorem lV.in1{k:Nat}(r:lV (k+1) A):lV k A.in1:=⟨r.hd,by have:=r.dp;change A.depth+3*k+5<_;omega,by have:=r.un;change A.units+1+16*k+200<_;omega⟩
theorem Ly{C:td}:(A.under (.builtin "type.__call__" ⟨.ref C::us,kw⟩)).depth=A.depth+1:=by first|rfl|simp[Around.under,Code.weight,Code.isCreation,Code.isGuard,Code.isCaller,Code.frames,Code.isFrame,guardIds]
theorem Lz{C:td}:(A.under (.builtin "type.__call__" ⟨.ref C::us,kw⟩)).units=A.units+1:=by first|rfl|simp[Around.under,Code.cUnits,Code.frames,Code.isFrame]
theorem lV.make{k:Nat}(r:lV (k+1) A)(C:td)(us:z_ r_)(kw:z_ (Str×r_)):lV k (A.under (.builtin "type.__call__" ⟨.ref C::us,kw⟩)):=⟨r.hd,by have:=r.dp;rw[Ly];omega,by have:=r.un;rw[Lz];omega⟩
theorem lV.depth{k:Nat}(r:lV k A):A.depth<recursionLimit:=by have:=r.dp;omega
theorem lV.units{k:Nat}(r:lV k A):A.units+64<cLine:=by have:=r.un;omega
def Q5:TA:=λ_ H Q=>Q [] H
def Q6(ta:TE)(tr:TA):TA:=λσ H Q=>ta σ H λx H1=>tr σ H1 λxs H2=>Q (x::xs) H2
section
variable{t:TA}
theorem HL:PA X [] Q5:=λ_ _ _ _ H Q I h=>Calls.spliced_nil ⟨[],H,I,.nil,h⟩
theorem Dz(ha:PE X e te)(hr:PA X es t)(hs:yz (e::es) X.env=(false,q0d 0)::q0e 0:=by rfl):PA X (e::es) (Q6 te t):=by
 intro pos P1 s σ H Q I h;rw[hs]
 change F_ (spliced ((false,q0d 0)::q0m (q0e 0))) _ _ s
 refine Calls.spliced_cons (thn (q1w 0) λu s1 hz=>?_);let⟨x,H1,I1,r1,q1⟩:=hz;show thn (hr pos P1 s1 σ H1 _ I1 q1) λus s2 ⟨xs,H2,I2,r2,q2⟩=>⟨x::xs,H2,I2,.cons r1 r2,q2⟩
def zan(t:TA):TE:=λσ H Q=>t σ H λxs H1=>xs.length<=yo/\∀p,H1 p=b_->Q (.ref p) (upd H1 p (.tup xs))
def zao(t:TA):TE:=λσ H Q=>t σ H λxs H1=>xs.length<=yo/\∀p,H1 p=b_->Q (.ref p) (upd H1 p (.lst xs))
theorem Ws{x1}(h:PA X es t):PE X (.Tuple es x1 pos) (zan t):=by intro P1 s σ H Q I hq;refine wpAny_Tuple_spliced (thn (h pos P1 s σ H _ I hq) λus s1 ⟨xs,H1,I1,r,z,q⟩=>⟨by rw[<-r.length];show z,?_⟩);let hf:H1 (e_ s1)=b_:=I1.hok.fresh (yg _);refine⟨.ref (e_ s1),upd H1 (e_ s1) (.tup xs),I1.laid (t':=s1.toks) (λb u e=>yc _ e) (yg _) ?_,rfl,q _ hf⟩;show⟨z,us,r,⟨_,q0O 0,rfl,⟨_,rfl⟩,rfl⟩⟩
theorem Wt(h:PA X es t):PE X (.List es pos) (zao t):=by intro P1 s σ H Q I hq;refine wpAny_List_spliced (thn (h pos P1 s σ H _ I hq) λus s1 ⟨xs,H1,I1,r,z,q⟩=>⟨by rw[<-r.length];show z,?_⟩);let hf:H1 (e_ s1)=b_:=I1.hok.fresh (yg _);refine⟨.ref (e_ s1),upd H1 (e_ s1) (.lst xs),I1.laid (t':=s1.toks) (λb u e=>yc _ e) (yg _) ?_,rfl,q _ hf⟩;show⟨z,us,0,r,q0O 0⟩
end
abbrev Sp:=z_ V->Hp->VK->XK->Prop
abbrev CXT:=z_ Env->Hp->s_->XK->f_ 0
structure FY(P:w_)(w:w4)(K:yb)(mg:n_ 0)(base:v_)(A:u_)(outer:z_ Env)(s:s_)(H:Hp):Prop where
 frames:A.frames=some outer
 mod:Mod K mg base
 bs:∀b o,base.get? b=some o->s.heap.get? b=some o/\H b=none
 bsz:base.objs.size<=(e_ s)
 funs:s.heap.FunFrames base outer
 frf:∀b∈frs outer,H b=none
 hok:HOk P w H s.heap
 bare:AllBare s.gens
def CE(outer:z_ Env)(P:w_)(w:w4)(H:Hp)(s:s_)(Q:VK)(u:r_)(s':s_):Prop:=
 ∃v H',s'.os=s.os/\AllBare s'.gens/\Un (frs outer) [] H H' s.heap s'.heap/\HOk P w H' s'.heap/\RelV v u/\Q v H'
def CR(CX:CXT)(outer:z_ Env)(P:w_)(w:w4)(H:Hp)(s:s_)(Q:VK)(E:XK)(r:Result)(s':s_):Prop:=
 match r with
 |.ok (.ret u)=>CE outer P w H s Q u s'
 |.ok _=>False
 |.error e=>CX outer H s E e s'
structure bD(P:w_)(w:w4)(K:yb)(mg:n_ 0)(base:v_)(CX:CXT)(k:Nat)(f:td)(fd:yw)(ps:z_ Str)(sp:Sp):Prop where
 len:∀vs H Q E,sp vs H Q E->vs.length=ps.length
 run:∀(A:u_)(outer:z_ Env)(s:s_)(H:Hp)(args:Args)(us:z_ r_)(vs:z_ V)(Q:VK)(E:XK),lV k A->FY P w K mg base A outer s H->BindsTo s fd args (ps.zip us)->bH vs us->sp vs H Q E->
  codeAny (model P w) A (.call (.ref f) args) (CR CX outer P w H s Q E) s
variable{CX:CXT}{base:v_}{fd:yw}{mg:n_ 0}{ps:z_ Str}{sp:Sp}
theorem bD.imp{k:Nat}{f:td}{xf:Sp}(F:bD P w K mg base CX k f fd ps sp)(h:∀vs H Q E,xf vs H Q E->sp vs H Q E):bD P w K mg base CX k f fd ps xf:=⟨λvs H Q E q=>F.len vs H Q E (h _ _ _ _ q),λA outer s H args us vs Q E hr he hb hv hs=>F.run A outer s H args us vs Q E hr he hb hv (h _ _ _ _ hs)⟩
variable{outer:z_ Env}
theorem FY.make(e:FY P w K mg base A outer s H)(C:td)(us:z_ r_)(kw:z_ (Str×r_)):
  FY P w K mg base (A.under (.builtin "type.__call__" ⟨.ref C::us,kw⟩)) outer s H:=⟨by first|exact e.frames|(simpa[Around.under,Code.envs,Code.isFrame,pushEnvs] using e.frames),e.mod,e.bs,e.bsz,e.funs,e.frf,e.hok,e.bare⟩
theorem FY.in1(e:FY P w K mg base A outer s H):
  FY P w K mg base A.in1 outer s H:=⟨e.frames,e.mod,e.bs,e.bsz,e.funs,e.frf,e.hok,e.bare⟩
theorem Inv.env0(I:Q_ s):FY X.prog X.w X.K X.mg X.base X.A X.stack s H:=⟨I.ok.frames,I.ok.mod,I.bs,ze I.ok.bsz I.sz,I.stack,I.stkFree,I.hok,I.bare⟩
theorem Inv.after{Q:VK}(I:Q_ s)(h:CE X.stack X.prog X.w H s Q u s'):q0g Q u s':=by let⟨v,H',os,bare,un,hok,r,q⟩:=h;let⟨hh,g,d,t,os'⟩:=s';obtain rfl:os'=s.os:=os;show⟨v,H',I.call (h':=hh) (g':=g) (d':=d) (t':=t) (ch:=[]) un hok bare (λb z=>absurd z (by simp)),r,q⟩
def Q7(sp:Sp)(cu:z_ V)(E:XK)(t:TA):TE:=λσ H Q=>t σ H λvs H1=>sp (vs++cu) H1 Q E
def VF(C:td)(sp:Sp)(cu:z_ V)(E:XK)(t:TA):TE:=λσ H Q=>t σ H λvs H1=>∀x dx,H1 x=b_->H1 dx=b_->dx≠x->
 sp (.ref x::(vs++cu)) (upd (upd H1 dx (.own x)) x (.ins C dx [])) (λv H2=>v=.non/\Q (.ref x) H2) E
def Binds(K:yb)(fd:yw)(ps:z_ Str)(ds:z_ r_):Prop:=
 ∀(s:s_)(us:z_ r_),K.In s.heap->(us++ds).length=ps.length->BindsTo s fd ⟨us,[]⟩ (ps.zip (us++ds))
theorem Binds.all(h:∀us:z_ r_,us.length=ps.length->bindArgs fd ⟨us,[]⟩=pure (ps.zip us)):Binds K fd ps []:=λs us _ hl=>by rw[y1f]at hl⊢;show .of_eq (h us hl)
def yZ(CX:CXT)(X:Cx)(E:XK):Prop:=∀(P1:gV 0)(σ:St)(H:Hp)(s:s_)(e:r_)(s':s_),Q_ s->CX X.stack H s E e s'->X.xe e s'
variable{cu vs:z_ V}
section
variable{k:Nat}{f C:td}{ds:z_ r_}{E:XK}{m:Str}{p:Pos}{o:x_}{t:TA}
theorem HM{Q:VK}(F:L_ CX k f fd ps sp)(hr:lV k X.A)(hb:q0K ds)(hd:bH cu ds)(hx:yZ CX X E)(I:Q_ s)(r:bH vs us)(h:sp (vs++cu) H Q E):wpAny (g_ X) X.A (call (.ref f) us) (q0g Q) X.xe s:=by
 let r2:bH (vs++cu) (us++ds):=r.append hd;let hl:(us++ds).length=ps.length:=by rw[<-r2.length];show F.len _ _ _ _ h
 refine wpAny_call (y2C (F.run X.A X.stack s H ⟨us,[]⟩ (us++ds) (vs++cu) Q E hr I.env0 (hb s us I.kIn hl) r2 h) λr s' hq=>?_);cases r with
 |error e=>exact hx P1 σ H s e s' I hq
 |ok fl=>
  cases fl with
  |ret u=>exact I.after hq
  |next=>exact y0I hq
  |brk=>exact y0I hq
  |cont=>exact y0I hq
theorem Tw(F:L_ CX k f fd ps sp)(hr:lV k X.A)(hg:Gl X x)(hm:X.mg x=c_ f)(hk:Io X.K (.ref f)=true)(hb:q0K ds)(hd:bH cu ds)(hx:yZ CX X E)
  (ha:PA X (e::es) t) (bo:(x == ("__debug__" : Str))=false:=by decide) (he:yz (e::es) X.env=(false,q0d 0)::q0e 0:=by rfl) (ar:(q0m (q0e 0)).any (·.1)=false:=by rfl):
  PE X (.Call (.Name x p) (e::es) [] pos) (Q7 sp cu E t):=by
 intro P1 s σ H Q I h;refine y0y (sZ I hg hm ?_ bo);refine PySem.W.callWith_K (h₀:=X.base) I.ok.mod.kin hk (thn (ha pos P1 s σ H _ I h) λus s1 ⟨vs,H1,I1,r,q⟩=>⟨I1.kIn,?_⟩) he ar;show HM F hr hb hd hx I1 r q
theorem Q8(F:L_ CX k f fd ps sp)(hr:lV k X.A)(hg:Gl X x)(hm:X.mg x=c_ f)(hk:Io X.K (.ref f)=true)(hb:q0K ds)(hd:bH cu ds)(hx:yZ CX X E)
  (bo:(x == ("__debug__" : Str))=false:=by decide):PE X (.Call (.Name x p) [] [] pos) (Q7 sp cu E Q5):=by
 intro P1 s σ H Q I h;refine y0y (sZ I hg hm ?_ bo);show PySem.W.callWith_K0 I.kIn hk (HM (us:=[]) F hr hb hd hx I .nil h)
structure Mk(K:yb)(C f:td):Prop where
 makes:y0L K C=true
 init:ya K (.ref C) "__init__" = some (c_ f)
 fn:PySem.W.isFn K (.ref f)=true
 kp:Io K (.ref C)=true
theorem Jy{Q:VK}(M:Mk X.K C f)(F:L_ CX k f fd ps sp)(hr:lV (k+1) X.A)(hb:q0K ds)(hd:bH cu ds)(hx:yZ CX X E)(I:Q_ s)(r:bH vs us)(h:∀x dx,H x=b_->H dx=b_->dx≠x->sp (.ref x::(vs++cu)) (upd (Z_ dx (.own x)) x (.ins C dx [])) (λv H2=>v=.non/\Q (.ref x) H2) E):
  wpAny (g_ X) X.A (call (.ref C) us) (q0g Q) X.xe s:=by
 let hq:=h (s.heap.objs.size+1) (e_ s) (I.hok.fresh (y09 _)) (I.hok.fresh (yg _)) (yt (Nat.lt_succ_self _));let I2:=Inv.made (C:=C) I;let r2:bH (V.ref (s.heap.objs.size+1)::(vs++cu)) (y4 (s.heap.objs.size+1)::(us++ds)):=.cons rfl (r.append hd);let hl:(y4 (s.heap.objs.size+1)::us++ds).length=ps.length:=by let e:=r2.length;rw[F.len _ _ _ _ hq]at e;show e.symm
 refine wpAny_call (Q4 (f:=f) I.kIn M.makes M.init (beq_iff_eq.mp M.fn) (y2C (F.run _ X.stack _ _ ⟨y4 (s.heap.objs.size+1)::us,[]⟩ (y4 (s.heap.objs.size+1)::(us++ds)) _ _ E (hr.make C us [])
  (I2.env0.make C us []) (hb _ (y4 (s.heap.objs.size+1)::us) I2.kIn hl) r2 hq) λr s' iu=>?_))
 cases r with
 |error e=>exact hx P1 σ _ _ e s' I2 iu
 |ok fl=>
  cases fl with
  |ret u=>let⟨v,H',I3,rv,ev,q3⟩:=I2.after iu;subst ev;show⟨rv,⟨V.ref (s.heap.objs.size+1),H',I3,rfl,q3⟩⟩
  |next=>exact y0I iu
  |brk=>exact y0I iu
  |cont=>exact y0I iu
theorem Tx(M:Mk X.K C f)(F:L_ CX k f fd ps sp)(hr:lV (k+1) X.A)(hg:Gl X x)(hm:X.mg x=c_ C)(hb:q0K ds)(hd:bH cu ds)(hx:yZ CX X E)
  (ha:PA X (e::es) t) (bo:(x == ("__debug__" : Str))=false:=by decide) (he:yz (e::es) X.env=(false,q0d 0)::q0e 0:=by rfl) (ar:(q0m (q0e 0)).any (·.1)=false:=by rfl):
  PE X (.Call (.Name x p) (e::es) [] pos) (VF C sp cu E t):=by
 intro P1 s σ H Q I h;refine y0y (sZ I hg hm ?_ bo);refine PySem.W.callWith_K (h₀:=X.base) I.ok.mod.kin M.kp (thn (ha pos P1 s σ H _ I h) λus s1 ⟨vs,H1,I1,r,q⟩=>⟨I1.kIn,?_⟩) he ar;show Jy M F hr hb hd hx I1 r q
theorem Q9(M:Mk X.K C f)(F:L_ CX k f fd ps sp)(hr:lV (k+1) X.A)(hg:Gl X x)(hm:X.mg x=c_ C)(hb:q0K ds)(hd:bH cu ds)(hx:yZ CX X E)
  (bo:(x == ("__debug__" : Str))=false:=by decide):PE X (.Call (.Name x p) [] [] pos) (VF C sp cu E Q5):=by
 intro P1 s σ H Q I h;refine y0y (sZ I hg hm ?_ bo);show PySem.W.callWith_K0 I.kIn M.kp (Jy (us:=[]) M F hr hb hd hx I .nil h)
end
structure aV(N P:z_ Str)(sc:Scope):Prop where
 kind:sc.kind=.function
 co:sc.isCoroutine=false
 gen:sc.isGenerator=false
 nd:N.Nodup
 pre:N.take P.length=P
 par:∀x∈P,sc.names.lookup x=some .local\/sc.names.lookup x=some .cell
 nofree:∀y∈sc.names,y.2≠.free
theorem GC{kindOf:Str->A_ y2g}{x:Str}:∀{binds:z_ (Str×r_)}{m:n_ 0},(∀v,(x,v)∉binds)->bindL kindOf binds m x=m x
 |[],_,_=>rfl
 |(n,v)::r,m,h=>by
  unfold bindL;rw[GC λw hw=>h w (yd _ hw)];split
  ·have:x≠n:=by rintro rfl;show h v ye
   simp[this]
  ·rfl
theorem GD{kindOf:Str->A_ y2g}{x:Str}:∀{binds:z_ (Str×r_)}{m:n_ 0},(∀v,(x,v)∉binds)->bindC kindOf binds m x=m x
 |[],_,_=>rfl
 |(n,v)::r,m,h=>by
  unfold bindC;rw[GD λw hw=>h w (yd _ hw)];split
  ·rfl
  ·have:x≠n:=by rintro rfl;show h v ye
   simp[this]
theorem GE{kindOf:Str->A_ y2g}{x:Str}{v:r_}:∀{P:z_ Str}{vs:z_ r_}{i:Nat}{m:n_ 0},P.Nodup->P[i]?=a_ x->vs[i]?=a_ v->kindOf x=a_ .local->
  bindL kindOf (P.zip vs) m x=a_ v
 |[],_,_,_,_,h,_,_=>by simp at h
 |_::_,[],_,_,_,_,h,_=>by simp at h
 |p::P,w::vs,0,m,nd,h1,h2,hk=>by
  simp at h1 h2;subst h1;subst h2
  change bindL kindOf ((p,w)::P.zip vs) m p=_
  unfold bindL;rw[GC λv hv=>(y1g.mp nd).1 (List.of_mem_zip hv).1,if_pos hk];simp
 |p::P,w::vs,i+1,m,nd,h1,h2,hk=>by
  change bindL kindOf ((p,w)::P.zip vs) m x=_
  unfold bindL;show GE (i:=i) (y1g.mp nd).2 (k_ h1) (k_ h2) hk
theorem GF{kindOf:Str->A_ y2g}{x:Str}{v:r_}:∀{P:z_ Str}{vs:z_ r_}{i:Nat}{m:n_ 0},P.Nodup->P[i]?=a_ x->vs[i]?=a_ v->kindOf x≠a_ .local->
  bindC kindOf (P.zip vs) m x=a_ v
 |[],_,_,_,_,h,_,_=>by simp at h
 |_::_,[],_,_,_,_,h,_=>by simp at h
 |p::P,w::vs,0,m,nd,h1,h2,hk=>by
  simp at h1 h2;subst h1;subst h2
  change bindC kindOf ((p,w)::P.zip vs) m p=_
  unfold bindC;rw[GD λv hv=>(y1g.mp nd).1 (List.of_mem_zip hv).1,if_neg hk];simp
 |p::P,w::vs,i+1,m,nd,h1,h2,hk=>by
  change bindC kindOf ((p,w)::P.zip vs) m x=_
  unfold bindC;show GF (i:=i) (y1g.mp nd).2 (k_ h1) (k_ h2) hk
def start(N:z_ Str)(vs:z_ V):St:=vs.map a_++y2d (N.length-vs.length) b_
def LA(CX:CXT)(P:w_)(w:w4)(K:yb)(mg:n_ 0)(base:v_)(N:z_ Str)(qual:Str)(scope:Scope)(f:td)(cd:r_)(A:u_)(outer:z_ Env)(s:s_)(H:Hp)(E:XK):Cx where
 prog:=P
 w:=w
 K:=K
 mg:=mg
 base:=base
 A:=A.deeper (q0Y (e_ s) f cd)
 N:=N
 s₀:=s
 H₀:=H
 env:=q0Y (e_ s) f cd
 outer:=outer
 stack:=q0Y (e_ s) f cd::outer
 ex:=[]
 calm:=true
 fn:=λ_=>true
 pn:=[]
 xe:=λe s'=>wpAny (model P w) (A.deeper (q0Y (e_ s) f cd)) (leaving (q0Y (e_ s) f cd) e) (λ_ cj=>CX outer H s E e cj) (λe' cj=>CX outer H s E e' cj) s'
variable{sc:Scope}
theorem Jz(h:q0A 0=a_ .cell):∃c,(y0s n sc.names []).lookup x=a_ c:=by let q:=PySem.W.cellsFrom_some sc.names n [] (.inl h);show y1l.mp q
variable{cd:r_}{qual:Str}{s1:s_}{scope:Scope}
theorem Ob{f:td}{E:XK}(S:aV N ps scope)(hd:A.handled=b_)(e0:FY P w K mg base A outer s H)(hl:vs.length=ps.length)(r:bH vs us)(x:InCallC s (e_ s) (bindL (q0Y (e_ s) f cd).kindOf (ps.zip us) λ_=>b_) (y0s (s.heap.objs.size+1) scope.names []) (bindC (q0Y (e_ s) f cd).kindOf (ps.zip us) λ_=>b_) s1):
  Inv (q0B cd A outer s H E) [] (start N vs) H s1:=by
 let ar:ps.length<=N.length:=by have:=congrArg y2i S.pre;rw[y03]at this;omega
 let⟨h1,tk,rfl,hk⟩:=x.done;let pe:∀b:td,b∉(q0B cd A outer s H E).ex:=λb z=>absurd (show b∈([]:z_ td) from z) (by simp)
 refine⟨⟨e0.mod,S.kind,rfl,rfl,yg _,λy z c h1 h2=>?_,λy hy=>?_,λy c _ h=>?_,λ_=>hd,Around.frames_deeper e0.frames,.inr ⟨rfl,rfl⟩,λb z=>absurd z (pe b),e0.bs,e0.bsz,λb _ _=>pe b,λb z=>absurd z (pe b),e0.funs,e0.frf⟩,
  rfl,e0.bare,Un.kept hk,⟨_,x.toInCall.ns,λi y v h1 h2 h3=>?_⟩,λy c h=>⟨_,x.cell y c h⟩,e0.hok.fresh (yg _),λy c h=>?_,λp hp=>absurd (show p∈([]:gV 0) from hp) (by simp),e0.hok.kept hk,?_⟩
 ·show name_of_addr x.apart (y17 h1) (y17 h2)
 ·let hy:scope.names.lookup y=a_ .cell\/scope.names.lookup y=a_ .free:=hy;rcases hy with hy|hy
  ·show Jz hy
  ·show absurd rfl (S.nofree _ (y17 hy))
 ·show y0G (x.above y c (y17 h))
 ·let hi:i<vs.length:=by
   unfold start at h2;by_cases hi:i<vs.length
   ·show hi
   ·rw[y0E (k_ hi)]at h2;rw[List.getElem?_replicate]at h2;split at h2 <;> cases h2
  let ha:vs[i]?=a_ v:=by
   unfold start at h2;rw[zw (k_ hi),yy]at h2;cases e:vs[i]? with
   |none=>rw[e]at h2;cases h2
   |some a=>rw[e]at h2;cases h2;rfl
  let⟨u,hu,rv⟩:=r.get ha;let hp:ps[i]?=a_ y:=by rw[<-S.pre,List.getElem?_take_of_lt ⋯];show h1
  let xb:ps.Nodup:=by rw[<-S.pre];show S.nd.sublist (List.take_sublist _ _)
  refine⟨u,rv,?_⟩;rcases S.par y (zi hp) with k|k
  ·show .inl ⟨k,GE xb hp hu k⟩
  ·let⟨c,e⟩:=Jz (n:=(e_ s)+1) k;refine .inr ⟨.inl k,c,e,?_⟩;let q:=x.cell y c e;rw[GF xb hp hu (by change scope.names.lookup y≠_;rw[k];decide)]at q;show q
 ·show e0.hok.fresh (y0G (x.above y c (y17 h)))
 ·unfold start
  change _=N.length
  rw[y0z,yh,List.length_replicate];omega
variable{an od:A_ td}{cdv ct doc pm:r_}{osl:m_ 0}{params:Arguments}
theorem Yt{k:Nat}{f:td}{dV kV oc:r_}(lk:K.lookup f=a_ ⟨oc,od,.func (y04 name qual params body scope dV kV doc pm an cdv ct),osl⟩)(fj:y2w K cdv qual=true)(S:aV N ps scope)(len:∀vs H Q E,sp vs H Q E->vs.length=ps.length)(gu:∀(A:u_)(outer:z_ Env)(s:s_)(H:Hp)(vs:z_ V)(Q:VK)(E:XK),lV k (A.deeper (q0Y (e_ s) f cdv))->sp vs H Q E->
   ∃t,PSs (q0B cdv A outer s H E) body t/\t { nx:=λ_ H'=>Q .non H',rt:=Q} (start N vs) H):
  bD P w K mg base CX (k+1) f (y04 name qual params body scope dV kV doc pm an cdv ct) ps sp:=by
 refine⟨len,λA outer s H args us vs Q E hr e0 hb r jr=>?_⟩;let hl:=len _ _ _ _ jr;let KX:K.In s.heap:=e0.mod.kin.keeps λb o e=>(e0.bs b o e).1;let lim:s.heap.NoLimit:=e0.mod.nolimit.keeps λb o e=>(e0.bs b o e).1;let o4:∀y∈ps.zip us,scope.names.lookup y.1=a_ .local\/(scope.names.lookup y.1=a_ .cell/\((y0s (s.heap.objs.size+1) scope.names []).lookup y.1).isSome=true):=λ⟨n,v⟩ hy=>by
  rcases S.par n (List.of_mem_zip hy).1 with q|q
  ·show .inl q
  ·show .inr ⟨q,PySem.W.cellsFrom_some _ _ _ (.inl q)⟩
 refine codeAny_call_function hr.depth (KX _ _ lk) rfl S.co S.gen rfl (PySem.W.codeRec_of KX fj) (hb _ _ _ _ ?_);refine wpAny_newFunctionEnv_cells S.kind o4 λenv he s1 x=>?_;subst he;refine⟨lim.keeps x.toInCall.keep,codeAny_func ?_⟩;let⟨t,ht,hq⟩:=gu A outer s H vs Q E (hr.deeper _) jr;let I:Inv (q0B cdv A outer s H E) [] (start N vs) H s1:=Ob S hr.hd e0 hl r x;refine y0R (ht [] s1 (start N vs) H _ I hq) (λfl s' hs=>?_) λe s' hs=>hs;let fin:∀{σ':St}{H':Hp}{v:V}{u:r_},Inv (q0B cdv A outer s H E) [] σ' H' s'->RelV v u->Q v H'->CE outer P w H s Q u s':=
  λ{σ' H' v u} J rv q=>⟨v,H',J.os,J.bare,J.base,J.hok,rv,q⟩
 cases fl with
 |ret u=>let⟨v,σ',H',J,rv,q⟩:=hs;show fin J rv q
 |next=>let⟨σ',H',J,q⟩:=hs;show fin (v:=V.non) (u:=yp) J rfl q
 |brk=>let⟨_,_,_,q⟩:=hs;show y0I q
 |cont=>let⟨_,_,_,q⟩:=hs;show y0I q
variable{T:String}
section
variable{p:Pos}{t:TA}{id:String}{r:z_ V->Hp->VK->Prop}
def tCB(r:z_ V->Hp->VK->Prop)(t:TA):TE:=λσ H Q=>t σ H λvs H1=>r vs H1 Q
theorem Qa(hc:gQ X (.builtin id) r)(hg:Gl X x)(hm:X.mg x=b_)(hv:y1J x=a_ (.builtin id))(ha:PA X (e::es) t)(hn:x≠"__name__" := by decide)(bo:(x == ("__debug__" : Str))=false:=by decide)
  (he:yz (e::es) X.env=(false,q0d 0)::q0e 0:=by rfl) (ar:(q0m (q0e 0)).any (·.1)=false:=by rfl):PE X (.Call (.Name x p) (e::es) [] pos) (tCB r t):=by
 intro P1 s σ H Q I h;refine y0y (vG I hg hm hv ?_ hn bo);show PyProof.Rows.callWith_builtin1 (thn (ha pos P1 s σ H _ I h) λus s1 ⟨vs,H1,I1,r1,q1⟩=>hc P1 s1 σ H1 vs us Q I1 r1 q1) he ar
theorem Oc(hc:gQ X (.type T) r)(hg:Gl X x)(hm:X.mg x=b_)(hv:y1J x=a_ (.type T))(ha:PA X (e::es) t)(hn:x≠"__name__" := by decide)(bo:(x == ("__debug__" : Str))=false:=by decide)
  (he:yz (e::es) X.env=(false,q0d 0)::q0e 0:=by rfl) (ar:(q0m (q0e 0)).any (·.1)=false:=by rfl):PE X (.Call (.Name x p) (e::es) [] pos) (tCB r t):=by
 intro P1 s σ H Q I h;refine y0y (vG I hg hm hv ?_ hn bo);show y1C (thn (ha pos P1 s σ H _ I h) λus s1 ⟨vs,H1,I1,r1,q1⟩=>hc P1 s1 σ H1 vs us Q I1 r1 q1) he ar
end
end L2
namespace HT
open PySem PyProof.Rows
variable{A:u_}{E Q:f_ 0}{prog:w_}{s:s_}{vs ws:z_ r_}{w:w4}
theorem cat_tup{t b:td}(ht:IsTup s.heap t vs.toArray)(hb:IsTup s.heap b ws.toArray)(hv:vs≠[])(h1:ws=[]->Q (.ref t) s)(h2:ws≠[]->Q (.ref (e_ s)) {s with heap:=s.heap.push {cls:=.type "tuple",data:=.seq (vs++ws).toArray} })(hsz:vs.length+ws.length<=yo):C_ (y0Q .Add (.ref t) (.ref b)) Q E s:=by
 let⟨⟨cls,dd,data,sl⟩,ho,hc,n,hd⟩:=id ht;let⟨⟨j3,ip,data2,iw⟩,fe,cx,n2,hd2⟩:=id hb;simp only at hc hd cx hd2;subst hc hd cx hd2;let e:vs.toArray++ws.toArray=(vs++ws).toArray:=by simp
 by_cases hw:ws=[]
 ·show concat_meets ⟨_,ho,rfl⟩ ⟨_,fe,rfl⟩ noFill_tuple_add seq_tuple_add PySem.F.slot_tuple_add PySem.F.entry_tuple_add (PySem.F.args_tuple_add_2 _ _)
   (tuple_addW1 t b vs.toArray ws.toArray n n2 dd ip sl iw (k_ hv) (by simp[hw])) ⟨ho,fe,h1 hw⟩
 ·refine concat_meets ⟨_,ho,rfl⟩ ⟨_,fe,rfl⟩ noFill_tuple_add seq_tuple_add PySem.F.slot_tuple_add PySem.F.entry_tuple_add (PySem.F.args_tuple_add_2 _ _)
   (tuple_addW2 t b vs.toArray ws.toArray n n2 dd ip sl iw (k_ hv) (k_ hw) (by rw[yn,yn];show hsz)) ⟨ho,fe,?_⟩
  rw[e];show h2 hw
def sIx(n d:Nat):A_ Int->Nat
 |none=>d
 |some v=>if v<0 then(v+(n:Int)).toNat else min v.toNat n
theorem Wu(n d:Nat)(hd:d<=n)(o:A_ Int):sIx n d o<=n:=by
 cases o with
 |none=>exact hd
 |some v=>
  change(if v<0 then(v+(n:Int)).toNat else min v.toNat n)<=n
  by_cases hv:v<0
  ·rw[if_pos hv];omega
  ·rw[if_neg hv];show Nat.min_le_right _ _
theorem N8(v:Int)(n d:Nat):(if v<0 then max (v+(n:Int)) 0 else min v (n:Int))=((sIx n d (a_ v):Nat):Int):=by
 change(if v<0 then max (v+(n:Int)) 0 else min v (n:Int))=(((if v<0 then(v+(n:Int)).toNat else min v.toNat n):Nat):Int)
 by_cases hv:v<0
 ·simp only[if_pos hv];omega
 ·simp only[if_neg hv];omega
theorem LB(lo hi:A_ Int)(n:Nat):y2x lo hi 1 (n:Int)=(((sIx n 0 lo:Nat):Int),((sIx n n hi:Nat):Int)):=by
 let h1:¬ ((1:Int)<0):=⋯;unfold y2x;simp only[h1,if_false];refine Prod.ext ?_ ?_
 ·cases lo with
  |none=>rfl
  |some v=>exact N8 v n 0
 ·cases hi with
  |none=>rfl
  |some v=>exact N8 v n n
theorem LC(i j:Nat):y1Q (i:Int) (j:Int) 1=j-i:=by
 unfold y1Q;let h1:(1:Int)>0:=⋯;simp only[h1,if_true,Int.ediv_one];split <;> omega
variable{o:A_ Int}{v:r_}
theorem E6{Q:A_ Int->s_->Prop}(p:IsPart v o)(h:Q o s):C_ (Builtin.Slice.slicePartIndex v) Q E s:=by
 cases p with
 |none=>exact slicePart_none h
 |int i t=>exact slicePart_int h
variable{hi lo:A_ Int}{n:Nat}{sl:td}{vl vu:r_}
theorem sliceApplied_gen{Q:Int×Int×Nat->s_->Prop}(hs:s.heap.IsSliceOf sl vl vu .none)(pl:IsPart vl lo)(pu:IsPart vu hi)(h:Q (((sIx n 0 lo:Nat):Int),1,sIx n n hi-sIx n 0 lo) s):C_ (Builtin.Slice.sliceApplied (.ref sl) (pure (n:Int))) Q E s:=by
 let⟨os,lq,nv,jz⟩:=id hs;unfold Builtin.Slice.sliceApplied Builtin.Slice.sliceFields;refine xr (xr (y1D lq jz (x:=vl) rfl (xr (y1D lq jz (x:=vu) rfl (xr (y1D lq jz (x:=.none) rfl (xw ?_)))))));refine xr (slicePart_none ?_)
 change F_ (if((1:Int) == 0)=true then _ else _) _ _ s
 rw[V_ 0];refine xr (E6 pl (xr (E6 pu (xr (xw ?_)))))
 change F_ (match y2x lo hi 1 (n:Int) with|(lo,hi)=>pure (lo,(1:Int),y1Q lo hi 1)) _ _ s
 rw[LB lo hi n]
 change F_ (pure (((sIx n 0 lo:Nat):Int),(1:Int),y1Q ((sIx n 0 lo:Nat):Int) ((sIx n n hi:Nat):Int) 1)) _ _ s
 rw[LC];show xw h
theorem Qb(xs:q0l 0)(i k:Nat):((za k).filterMap λ(m:Nat)=>xs[((i:Int)+(m:Int)*1).toNat]?).toArray=((xs.toList.drop i).take k).toArray:=by
 let e:(λ(m:Nat)=>xs[((i:Int)+(m:Int)*1).toNat]?)=λm=>xs[i+m]?:=by
  funext m;have:((i:Int)+(m:Int)*1).toNat=i+m:=⋯;rw[this]
 rw[e];have:=pick_run xs i k;rw[List.filterMap_map]at this;let e2:((λx=>xs[x]?)∘λx=>i+x)=λm=>xs[i+m]?:=rfl;rw[e2]at this;rw[this]
variable{items:q0l 0}
theorem getItem_tuple_cut{t:td}(ht:IsTup s.heap t items)(hs:s.heap.IsSliceOf sl vl vu .none)(pl:IsPart vl lo)(pu:IsPart vu hi)(hw:¬ (q0f 0 lo=0/\q1i 0=items.size))(h:Q (.ref (e_ s)) {s with heap:=s.heap.push {cls:=.type "tuple",data:=.seq ((items.toList.drop (q0f 0 lo)).take (q1i 0-q0f 0 lo)).toArray} })(hsz:items.size<=yo):C_ (getItem (.ref t) (.ref sl)) Q E s:=by
 let e7:sizeOk (.seq ((items.toList.drop (q0f 0 lo)).take (q1i 0-q0f 0 lo)).toArray):=by
  change((items.toList.drop (q0f 0 lo)).take (q1i 0-q0f 0 lo)).toArray.size<=yo
  rw[yn,y03,List.length_drop,y15];omega
 let hj:q1i 0<=items.size:=Wu _ _ (yg _) hi;let⟨os,lq,nv,jz⟩:=id hs;let r8:s.TypeIs (.ref sl) "slice" := ⟨os,lq,nv⟩;unfold getItem
 try with_reducible refine y0c ?_
 first|refine xr (xw ?_)|skip
 refine xr (wpAny_sequenceKey ht.typeIs nofun ?_);refine xr (z9 (name:=yi "__getitem__") ht.typeIs y0j
  (zm y0j ht.typeIs entry_tuple_getitem ?_ (args_tuple_getitem _ _)))
 change F_ (y2t (.ref t) >>= _) _ _ s
 refine xr (tupleItemsOf_ ht ?_);refine xr (wpAny_typeOf r8 ?_);rw[if_pos nofun];refine xr (sliceApplied_gen hs pl pu ?_);let je:¬ ((((sIx items.size 0 lo:Nat):Int) == 0&&(1:Int) == 1&&(q1i 0-q0f 0 lo) == items.size)=true):=by intro q;rw[zg,zg]at q;let q1:((sIx items.size 0 lo:Nat):Int)=0:=eq_of_beq q.1.1;let q2:q1i 0-q0f 0 lo=items.size:=eq_of_beq q.2;show hw ⟨⋯,⋯⟩
 change F_ (if(((sIx items.size 0 lo:Nat):Int) == 0&&(1:Int) == 1&&(q1i 0-q0f 0 lo) == items.size)=true then _ else _) _ _ s
 rw[if_neg je,Qb]
 first
  |exact xr (m:=y1V _) (zd (xw ⟨_,rfl,xw h⟩) e7)
  |exact xr (m:=y1V _) (zd (xr (xw (xw ⟨_,rfl,xw h⟩))) e7)
  |exact xr (xr (m:=y1V _) (zd (xw (xw ⟨_,rfl,xw h⟩)) e7))
  |exact xr (xr (m:=y1V _) (zd (xw ⟨_,rfl,xw h⟩) e7))
end HT
namespace L2
abbrev TO:=St->Hp->(A_ Int->Hp->Prop)->Prop
def PO(X:Cx)(e:A_ x_)(t:TO):Prop:=
 ∀(P1:gV 0)(s:s_)(σ:St)(H:Hp)(Q:A_ Int->Hp->Prop),Q_ s->t σ H Q->
  wpAny (g_ X) X.A (evalPart e X.env) (λu s'=>∃o H',j_ H' s'/\IsPart u o/\Q o H') X.xe s
def Tz:TO:=λ_ H Q=>Q b_ H
variable{ns:z_ Int}
theorem intsAre_of:∀{us:z_ r_},bH (q1x 0) us->IntsAre us ns:=by
 induction ns with
 |nil=>intro us r;rw[List.map_nil]at r;cases r;show .nil
 |cons n ns ih=>
  intro us r;rw[yq]at r;cases r with
  |cons r1 r2=>let⟨t,e⟩:=r1;subst e;show .cons n t (ih r2)
variable{X:Cx}{hi lo:A_ x_}{r r':V->A_ Int->A_ Int->Hp->VK->Prop}{e:x_}{p2 pos:Pos}{te:TE}{us:z_ r_}
section
variable{tl th:TO}
theorem TB:PO X b_ Tz:=by intro P1 s σ H Q I h;rw[evalPart_none];show xw ⟨b_,H,I,.none,h⟩
def SlR(X:Cx)(r:V->A_ Int->A_ Int->Hp->VK->Prop):Prop:=
 ∀(P1:gV 0)(s:s_)(σ:St)(H:Hp)(x:V)(v vl vu:r_)(lo hi:A_ Int)(sl:td)(Q:VK),Q_ s->q1e v->s.heap.IsSliceOf sl vl vu .none->IsPart vl lo->IsPart vu hi->r x lo hi H Q->
  ∃T id,typeLookup (.type T) "__getitem__" = pure (a_ (.builtin id))/\s.TypeIs v T/\wpAny (g_ X) X.A (getItem v (.ref sl)) (q0g Q) X.xe s
theorem SlR.or(h:SlR X r)(h':SlR X r'):SlR X (λx lo hi H Q=>r x lo hi H Q\/r' x lo hi H Q):=by
 intro P1 s σ H x v vl vu lo hi sl Q I rx hs pl pu q;rcases q with q|q
 ·show q0t x v vl vu lo hi sl Q I rx hs pl pu q
 ·show h' P1 s σ H x v vl vu lo hi sl Q I rx hs pl pu q
def tSl(r:V->A_ Int->A_ Int->Hp->VK->Prop)(te:TE)(tl th:TO):TE:=λσ H Q=>te σ H λx H1=>tl σ H1 λl H2=>th σ H2 λu H3=>r x l u H3 Q
theorem Qc(hr:SlR X r)(he:PE X e te)(hl:PO X lo tl)(hu:PO X hi th):PE X (.Subscript e (.Slice lo hi b_ p2) pos) (tSl r te tl th):=by
 intro P1 s σ H Q I h;refine Subscript_ (thn (he P1 s σ H _ I h) λv s1 hz=>?_);let⟨x,H1,I1,r1,q1⟩:=hz;refine wpAny_Slice (thn (hl P1 s1 σ H1 _ I1 q1) λvl s2 ⟨l,H2,I2,pl,q2⟩=>thn (hu P1 s2 σ H2 _ I2 q2) λvu s3 hz=>?_);let⟨u,H3,I3,pu,q3⟩:=hz;rw[evalPart_none];refine xw ?_;let I4:j_ H3 {s3 with heap:=s3.heap.push {cls:=.type "slice",data:=.fields #[vl,vu,.none]} }:=I3.kept (t':=s3.toks) λb ob q=>yc _ q;let⟨T,id,hT,ht,hg⟩:=hr P1 {s3 with heap:=s3.heap.push {cls:=.type "slice",data:=.fields #[vl,vu,.none]} } σ H3 x v vl vu l u (e_ s3) Q I4 r1 (Heap.IsSliceOf.new ..) pl pu q3
 change wpAny (g_ X) X.A (subscriptTail e (.Slice lo hi b_ p2) v (.ref (e_ s3))) (q0g Q) X.xe {s3 with heap:=s3.heap.push {cls:=.type "slice",data:=.fields #[vl,vu,.none]} }
 show tail_any (ops:=[.ref (e_ s3),v]) ht hT hg (by with_unfolding_all rfl)
def JA(xs:z_ V)(lo hi:A_ Int):z_ V:=(xs.drop (q0b 0 lo)).take (q0b xs.length hi-q0b 0 lo)
theorem Cy(xs:z_ V)(lo hi:A_ Int):(JA xs lo hi).length<=xs.length:=by unfold JA;rw[y03,List.length_drop];omega
def Yu(K:yb):V->A_ Int->A_ Int->Hp->VK->Prop:=λx lo hi H Q=>∃a xs,x=.ref a/\q1c a xs/\
 ¬ (q0b 0 lo=0/\q0b xs.length hi=xs.length)/\∀p,H p=b_->Q (.ref p) (Z_ p (.tup (JA xs lo hi)))
theorem Wv:SlR X (Yu X.K):=by
 intro P1 s σ H x v vl vu lo hi sl Q I rx hs pl pu h;let⟨a,xs,rfl,hx,hw,q⟩:=h;cases rx
 let⟨its,r,ht,hz⟩:=I.tuple hx;let hlen:its.toArray.size=xs.length:=by rw[yn];show r.length.symm
 refine⟨"tuple",_,y0j.lookup,ht.typeIs,?_⟩;refine HT.getItem_tuple_cut ht hs pl pu (by rw[hlen];show hw) ?_ (by rw[hlen];show hz);rw[hlen];refine⟨.ref (e_ s),_,I.laid (t':=s.toks) (o:=.tup (JA xs lo hi)) (λb ob q=>yc _ q) (yg _) ?_,rfl,q _ (I.hok.fresh (yg _))⟩;show⟨ze (Cy xs lo hi) hz,_,(r.drop (q0b 0 lo)).take (q0b xs.length hi-q0b 0 lo),Bl.new _ _⟩
def VG(K:yb):R2:=λx y H Q=>∃a b xs ys,x=.ref a/\y=.ref b/\q1c a xs/\q1c b ys/\xs≠[]/\xs.length+ys.length<=yo/\
 (ys=[]->Q (.ref a) H)/\(ys≠[]->∀p,H p=b_->Q (.ref p) (Z_ p (.tup (xs++ys))))
theorem bH.nil_iff{xs:z_ V}(r:bH xs us):us=[]↔xs=[]:=by
 cases r with
 |nil=>simp
 |cons _ _=>simp
theorem TC:q0C (y0Q .Add) (VG X.K):=by
 intro P1 s σ H x y v u Q I rx ry h;let⟨a,b,xs,ys,rfl,rfl,ha,hb,hx,hz,q1,q2⟩:=h;cases rx
 cases ry
 let⟨its,r1,p1,_⟩:=I.tuple ha;let⟨gi,r2,p2,_⟩:=I.tuple hb;refine HT.cat_tup p1 p2 (λz=>hx (r1.nil_iff.mp z)) (λz=>⟨.ref a,H,I,rfl,q1 (r2.nil_iff.mp z)⟩) (λz=>?_) (by rw[<-r1.length,<-r2.length];show hz);refine⟨.ref (e_ s),_,I.laid (t':=s.toks) (o:=.tup (xs++ys)) (λb ob q=>yc _ q) (yg _) ?_,rfl,q2 (λw=>z (r2.nil_iff.mpr w)) _ (I.hok.fresh (yg _))⟩;show⟨by rw[y0z];show hz,_,r1.append r2,Bl.new _ _⟩
end
def ixN(n:Nat)(i:Int):A_ Nat:=if 0<=i then(if i<n then a_ i.toNat else b_) else if -(n:Int)<=i then a_ (i+n).toNat else b_
def atI{α:Type}(xs:z_ α)(i:Int):A_ α:=(ixN xs.length i).bind λj=>xs[j]?
variable{j n:Nat}
theorem N9{i:Int}(h:ixN n i=a_ j):seqIndex? i n=a_ j/\j<n/\-(n:Int)<=i/\i<n:=by
 unfold ixN at h;by_cases h0:0<=i
 ·rw[if_pos h0]at h;by_cases h1:i<n
  ·rw[if_pos h1]at h;let e:i.toNat=j:=yx h;show⟨by rw[seqIndex_of h0 h1,e],⋯,⋯,h1⟩
  ·rw[if_neg h1]at h;cases h
 ·rw[if_neg h0]at h;by_cases h1:-(n:Int)<=i
  ·rw[if_pos h1]at h;let e:(i+n).toNat=j:=yx h;show⟨by rw[seqIndex_neg ⋯ h1,e],⋯,h1,⋯⟩
  ·rw[if_neg h1]at h;cases h
theorem HN{α:Type}{xs:z_ α}{i:Int}{v:α}(h:atI xs i=a_ v):∃j,seqIndex? i xs.length=a_ j/\xs[j]?=a_ v/\j<xs.length/\-(xs.length:Int)<=i/\i<xs.length:=by
 unfold atI at h;cases e:ixN xs.length i with
 |none=>rw[e]at h;cases h
 |some j=>rw[e]at h;let⟨h1,h2,h3,h4⟩:=N9 e;show⟨j,h1,h,h2,h3,h4⟩
def N'(b:x_):Prop:=∀o i,subscripted b false o i=operate [o,i] (getItem o i)
def IxR(X:Cx)(r:R2):Prop:=
 ∀(value slice:x_)(P1:gV 0)(s:s_)(σ:St)(H:Hp)(x y:V)(v u:r_)(Q:VK),Q_ s->q1e v->RelV y u->r x y H Q->
  subscripted slice false v u=operate [v,u] (getItem v u)->wpAny (g_ X) X.A (subscriptTail value slice v u) (q0g Q) X.xe s
def MtR(X:Cx)(id:String)(r:V->z_ V->Hp->VK->Prop):Prop:=
 ∀(P1:gV 0)(s:s_)(σ:St)(H:Hp)(x:V)(xs:z_ V)(v:r_)(us:z_ r_)(Q:VK),Q_ s->q1e v->bH xs us->r x xs H Q->
  wpAny (g_ X) X.A (call (.builtin id) (v::us)) (q0g Q) X.xe s
variable{ta:TE}{H:Hp}{its its':z_ r_}{P1:gV 0}{s:s_}{σ:St}{A:u_}{u:r_}{y:V}{T:String}{ai apos:Pos}{es:z_ x_}{name:Str}
section
variable{a b:x_}{tb:TE}
theorem IxR.or{r r':R2}(h:IxR X r)(h':IxR X r'):IxR X (λx y H Q=>r x y H Q\/r' x y H Q):=by
 intro value slice P1 s σ H x y v u Q I rx ry q hs;rcases q with q|q
 ·show h value slice P1 s σ H x y v u Q I rx ry q hs
 ·show h' value slice P1 s σ H x y v u Q I rx ry q hs
theorem Yv{r:R2}(hr:IxR X r)(ha:PE X a ta)(hb:PE X b tb)(hs:N' b):PE X (.Subscript a b pos) (tOp r ta tb):=by intro P1 s σ H Q I h;show Subscript_ (Wg ha hb I h λv u s2 x y H2 I2 rx ry q=>hr a b P1 s2 σ H2 x y v u Q I2 rx ry q (hs _ _))
def zap(K:yb):R2:=λx y H Q=>∃p xs i v,x=.ref p/\y=.int i/\q1y p xs/\atI xs i=a_ v/\Q v H
def zaq(K:yb):R2:=λx y H Q=>∃p xs i v,x=.ref p/\y=.int i/\q1c p xs/\atI xs i=a_ v/\Q v H
def zar:R2:=λx y H Q=>∃z i c,x=.str z/\y=.int i/\z.length<=yo/\atI z.cps.toList i=a_ c/\Q (.str ⟨#[c]⟩) H
theorem TF:IxR X (zap X.K):=by
 intro value slice P1 s σ H x y v u Q I rx ry h hs;let⟨p,xs,i,z,rfl,rfl,hq,he,q⟩:=h;cases rx
 let⟨t,rfl⟩:=ry;let⟨its,r,pl,hz⟩:=I.list hq;let⟨j,h1,h2,h3,h4,h5⟩:=HN he;let⟨w,ew,cb⟩:=r.get h2;let hl:=r.length;let hn:=yY;let fin:q0g Q w s:=⟨z,H,I,cb,q⟩;by_cases h0:0<=i
 ·let hj:i.toNat=j:=by rw[seqIndex_of h0 h5]at h1;show yx h1
  show item_listR pl.isList h0 ⋯ (by rw[hj];simpa using ew) fin hs
 ·let hj:(i+(its.toArray.size:Int)).toNat=j:=by rw[seqIndex_neg ⋯ h4]at h1;rw[yn,<-hl];show yx h1
  show subscriptTail_builtinR (x:=w) pl.isList.typeIs slot_list_getitem.lookup
   (wpAny_getItem_list_neg (Q:=λr s'=>r=w/\q0g Q r s') pl.isList ⋯ (by rw[yn] <;> omega) ⋯ (by rw[hj];simpa using ew) ⟨rfl,fin⟩) hs
theorem Ww:IxR X (zaq X.K):=by
 intro value slice P1 s σ H x y v u Q I rx ry h hs;let⟨p,xs,i,z,rfl,rfl,hq,he,q⟩:=h;cases rx
 let⟨t,rfl⟩:=ry;let⟨its,r,pl,hz⟩:=I.tuple hq;let⟨j,h1,h2,h3,h4,h5⟩:=HN he;let⟨w,ew,cb⟩:=r.get h2;let hl:=r.length;let hn:=yY;let fin:q0g Q w s:=⟨z,H,I,cb,q⟩;show subscriptTail_builtinR (x:=w) pl.typeIs slot_tuple_getitem.lookup
  (getItem_tuple (j:=j) (Q:=λr s'=>r=w/\q0g Q r s') pl ⋯ ⋯ (by rw[yn,<-hl];show h1) (k_ ew) ⟨rfl,fin⟩) hs
theorem Wx:IxR X zar:=by
 intro value slice P1 s σ H x y v u Q I rx ry h hs;let⟨z,i,c,rfl,rfl,hz,he,q⟩:=h;let⟨t,rfl⟩:=rx;let⟨t',rfl⟩:=ry;let⟨j,h1,h2,h3,h4,h5⟩:=HN he;let hl:z.cps.toList.length=z.length:=by simp[y2e]
 rw[hl]at h1 h4 h5;let hn:=yY;show tail_any (typeIs_str s z t) slot_str_getitem.lookup (getItem_str (c:=c) (by let e1:decide (i < -(2 ^ 63:Int))=false:=decide_eq_false ⋯;let e2:decide (i >= 2 ^ 63)=false:=decide_eq_false ⋯;rw[e1,e2,Bool.or_false]) (by rw[h1];simpa using h2) ⟨.str ⟨#[c]⟩,H,q1v 0,⟨_,rfl⟩,q⟩) hs
theorem LD(its:z_ r_)(n j:Nat)(u:r_):zh (·.setIfInBounds j u) {cls:=.type "list",data:=.seq its.toArray n}={cls:=.type "list",data:=.seq (its.set j u).toArray n}:=by simp[zh]
theorem Inv.lst{P1:gV 0}{σ:St}{H:Hp}{s:s_}{p:td}{xs:z_ V}(I:Q_ s)(h:H p=a_ (.lst xs)):
  ∃(its:z_ r_)(n:Nat),bH xs its/\s.heap.get? p=a_ {cls:=.type "list",data:=.seq its.toArray n}/\xs.length<=yo:=by
 let⟨z,its,n,r,e⟩:=I.hok p _ h;show⟨its,n,r,e,z⟩
theorem Inv.lstUpd{p:td}{xs ys:z_ V}{n':Nat}{f:Obj->Obj}(I:Q_ s)(h:H p=a_ (.lst xs))(ho:s.heap.get? p=a_ {cls:=.type "list",data:=.seq its.toArray n})(hf:f {cls:=.type "list",data:=.seq its.toArray n}={cls:=.type "list",data:=.seq its'.toArray n'})(r:bH ys its')(hz:ys.length<=yo)(t:Nat):
  j_ (Z_ p (.lst ys)) {s with heap:=s.heap.update p f,toks:=t}:=by
 let e:(s.heap.update p f).get? p=a_ {cls:=.type "list",data:=.seq its'.toArray n'}:=by rw[y0a f ho (by rw[hf] <;> rfl),hf]
 refine I.write (x:=p) (e:=p) (by rw[h];trivial) (.inl rfl) (λb u hb q=>(y0J _ _ (y1o hb)).trans q) ⟨_,e⟩ ?_;show⟨hz,its',n',r,e⟩
def Yw:V->V->V->Hp->(Hp->Prop)->Prop:=λo i v H Q=>∃p xs k j,o=.ref p/\i=.int k/\H p=a_ (.lst xs)/\ixN xs.length k=a_ j/\Q (Z_ p (.lst (xs.set j v)))
theorem set_list:zaf X Yw:=by
 intro P1 s σ H o i v ov iv u Q I ro ri rv h;let⟨p,xs,k,j,rfl,rfl,hp,hj,q⟩:=h;cases ro
 let⟨t,rfl⟩:=ri;let⟨its,n,r,ho,hz⟩:=I.lst hp;let⟨h1,h2,h3,h4⟩:=N9 hj;let hl:=r.length;let hn:=yY;let I':j_ (Z_ p (.lst (xs.set j v))) {s with heap:=s.heap.update p (zh (·.setIfInBounds j u))}:=I.lstUpd hp ho (LD its n j u) (r.set rv j) (by rw[y0k];show hz) s.toks;by_cases h0:0<=k
 ·let hk:k.toNat=j:=by rw[seqIndex_of h0 h4]at h1;show yx h1
  show PySem.W.ki_setAt ho h0 ⋯ (by rw[yn,<-hl];show h4) (by rw[hk];show⟨_,I',q⟩)
 ·let hk:(k+(its.toArray.size:Int)).toNat=j:=by rw[seqIndex_neg ⋯ h3]at h1;rw[yn,<-hl];show yx h1
  show PySem.W.ki_setBack ho ⋯ (by rw[yn,<-hl];show h3) ⋯ (by rw[hk];show⟨_,I',q⟩)
theorem HP(lo hi:A_ Int)(n:Nat):(sliceBounds lo hi b_ n).1=((HT.sIx n 0 lo:Nat):Int)/\(sliceBounds lo hi b_ n).2.1=((HT.sIx n n hi:Nat):Int)/\(sliceBounds lo hi b_ n).2.2=1:=by
 refine⟨?_,?_,rfl⟩
 ·cases lo with
  |none=>simp[sliceBounds,HT.sIx]
  |some i=>
   simp only[sliceBounds,HT.sIx,Option.getD_none,show(1:Int)>0 by decide,if_true]
   by_cases h:i<0
   ·simp only[h,if_true] <;> omega
   ·simp only[h,if_false] <;> omega
 ·cases hi with
  |none=>simp[sliceBounds,HT.sIx]
  |some i=>
   simp only[sliceBounds,HT.sIx,Option.getD_none,show(1:Int)>0 by decide,if_true]
   by_cases h:i<0
   ·simp only[h,if_true] <;> omega
   ·simp only[h,if_false] <;> omega
theorem FZ(its:z_ r_)(lo hi:A_ Int):slicePick its.toArray lo hi b_=((its.drop (HT.sIx its.length 0 lo)).take (HT.sIx its.length its.length hi-HT.sIx its.length 0 lo)).toArray:=by let⟨h1,h2,h3⟩:=HP lo hi its.toArray.size;unfold slicePick;rw[h1,h2,h3];simp only[sliceRange_one,pick_run,yn] <;> rfl
def Yx(K:yb):V->A_ Int->A_ Int->Hp->VK->Prop:=λx lo hi H Q=>∃a xs,x=.ref a/\q1y a xs/\∀p,H p=b_->Q (.ref p) (Z_ p (.lst (JA xs lo hi)))
theorem TH:SlR X (Yx X.K):=by
 intro P1 s σ H x v vl vu lo hi sl Q I rx hs pl pu h;let⟨a,xs,rfl,hx,q⟩:=h;cases rx
 let⟨its,r,ht,hz⟩:=I.list hx;let hlen:=r.length;refine⟨"list",_,slot_list_getitem.lookup,ht.isList.typeIs,?_⟩;refine wpAny_getItem_list_slice ht.isList hs pl pu .none (by simp) ?_ (by rw[yn] <;> omega);rw[FZ,<-hlen];refine⟨.ref (e_ s),_,I.laid (t':=s.toks) (o:=.lst (JA xs lo hi)) (λb ob q=>yc _ q) (yg _) ?_,rfl,q _ (I.hok.fresh (yg _))⟩;show⟨ze (Cy xs lo hi) hz,_,0,(r.drop (q0b 0 lo)).take (q0b xs.length hi-q0b 0 lo),q0O 0⟩
def Cz:V->Bool
 |.non=>true
 |.bl _=>true
 |.int _=>true
 |.str _=>true
 |_=>false
def eqV:V->V->Bool
 |.non,.non=>true
 |.bl a,.bl b=>a == b
 |.bl a,.int b=>(if a then 1 else 0) == b
 |.int a,.bl b=>a == (if b then 1 else 0)
 |.int a,.int b=>a == b
 |.str a,.str b=>a == b
 |_,_=>false
theorem Wy{x:V}{v:r_}(ry:RelV y u)(rx:q1e v)(fy:Cz y=true)(fx:Cz x=true):SeqAt.EqAt A s u v (eqV y x):=by
 cases y with
 |non=>
  cases ry
  cases x with
  |non=>cases rx;show SeqAt.EqAt.same _
  |bl b=>cases rx;show SeqAt.EqAt.none_bool b
  |int b=>let⟨t,rfl⟩:=rx;show SeqAt.EqAt.none_int b t
  |str b=>let⟨t,rfl⟩:=rx;show SeqAt.EqAt.none_str b t
  |_=>exact absurd (show false=true from fx) yl
 |bl a=>
  cases ry
  cases x with
  |non=>cases rx;show SeqAt.EqAt.bool_none a
  |bl b=>cases rx;show SeqAt.EqAt.bool_bool a b
  |int b=>let⟨t,rfl⟩:=rx;show SeqAt.EqAt.bool_int a b t
  |str b=>let⟨t,rfl⟩:=rx;show SeqAt.EqAt.bool_str a b t
  |_=>exact absurd (show false=true from fx) yl
 |int a=>
  let⟨t',rfl⟩:=ry;cases x with
  |non=>cases rx;show SeqAt.EqAt.int_none a t'
  |bl b=>cases rx;show SeqAt.EqAt.int_bool a t' b
  |int b=>let⟨t,rfl⟩:=rx;show SeqAt.EqAt.int_int a t' b t
  |str b=>let⟨t,rfl⟩:=rx;show SeqAt.EqAt.int_str a t' b t
  |_=>exact absurd (show false=true from fx) yl
 |str a=>
  let⟨t',rfl⟩:=ry;cases x with
  |non=>cases rx;show SeqAt.EqAt.str_none a t'
  |bl b=>cases rx;show SeqAt.EqAt.str_bool a t' b
  |int b=>let⟨t,rfl⟩:=rx;show SeqAt.EqAt.str_int a t' b t
  |str b=>let⟨t,rfl⟩:=rx;show SeqAt.EqAt.str_str a t' b t
  |_=>exact absurd (show false=true from fx) yl
 |_=>exact absurd (show false=true from fy) yl
def eqU(x:V)(u:r_):Bool:=match u with
 |.none=>eqV .non x
 |.bool b=>eqV (.bl b) x
 |.int i _=>eqV (.int i) x
 |.str z _=>eqV (.str z) x
 |_=>false
theorem Qd{x:V}(r:RelV y u)(f:Cz y=true):eqU x u=eqV y x:=by
 cases y with
 |non=>cases r;rfl
 |bl b=>cases r;rfl
 |int i=>let⟨t,rfl⟩:=r;rfl
 |str z=>let⟨t,rfl⟩:=r;rfl
 |_=>exact absurd (show false=true from f) yl
theorem Ah{x:V}:∀{xs:z_ V}{us:z_ r_},bH xs us->xs.all Cz=true->us.any (eqU x)=xs.any λy=>eqV y x
 |_,_,.nil,_=>rfl
 |y::xs,u::us,.cons r t,f=>by rw[y1r,zg]at f;rw[y18,y18,Qd r f.1,Ah t f.2]
theorem vH{A:u_}{s:s_}{x:V}{v:r_}(rx:q1e v)(fx:Cz x=true):∀{xs:z_ V}{us:z_ r_},bH xs us->xs.all Cz=true->∀u∈us,SeqAt.EqAt A s u v (eqU x u)
 |_,_,.nil,_=>λu hu=>by cases hu
 |y::xs,u::us,.cons r t,f=>λu' hu=>by
  rw[y1r,zg]at f;rcases yr.mp hu with rfl|hu
  ·rw[Qd r f.1];show Wy r rx f.1 fx
  ·show vH rx fx t f.2 u' hu
def inV(x:V)(xs:z_ V):Bool:=xs.any λy=>eqV y x
def rIn(K:yb)(neg:Bool):R2:=λx y H Q=>∃p xs,y=.ref p/\(q1y p xs\/q1c p xs)/\Cz x=true/\xs.all Cz=true/\Q (.bl (if neg then !inV x xs else inV x xs)) H
theorem Od:q0C (zc .In) (rIn X.K false):=by
 intro P1 s σ H x y v u Q I rx ry h;let⟨p,xs,rfl,hq,fx,fs,q⟩:=h;cases ry
 rcases hq with hq|hq
 ·let⟨its,r,pl,hz⟩:=I.list hq;refine SeqAt.in_listAt (eqU x) pl.isList (λw hw=>vH rx fx r fs w (k_ hw)) ⟨.bl _,H,I,rfl,?_⟩;rw[show its.toArray.any (eqU x)=its.any (eqU x) by simp,Ah r fs];show q
 ·let⟨its,r,pl,hz⟩:=I.tuple hq;refine SeqAt.in_tupleAt (eqU x) pl (λw hw=>vH rx fx r fs w (k_ hw)) ⟨.bl _,H,I,rfl,?_⟩;rw[show its.toArray.any (eqU x)=its.any (eqU x) by simp,Ah r fs];show q
theorem HQ:q0C (zc .NotIn) (rIn X.K true):=by
 intro P1 s σ H x y v u Q I rx ry h;let⟨p,xs,rfl,hq,fx,fs,q⟩:=h;cases ry
 rcases hq with hq|hq
 ·let⟨its,r,pl,hz⟩:=I.list hq;refine SeqAt.notIn_listAt (eqU x) pl.isList (λw hw=>vH rx fx r fs w (k_ hw)) ⟨.bl _,H,I,rfl,?_⟩;rw[show its.toArray.any (eqU x)=its.any (eqU x) by simp,Ah r fs];show q
 ·let⟨its,r,pl,hz⟩:=I.tuple hq;refine SeqAt.notIn_tupleAt (eqU x) pl (λw hw=>vH rx fx r fs w (k_ hw)) ⟨.bl _,H,I,rfl,?_⟩;rw[show its.toArray.any (eqU x)=its.any (eqU x) by simp,Ah r fs];show q
theorem HS:gQ X (.builtin "len") (λxs H Q=>∃p ys,xs=[.ref p]/\(SqL X.K H p ys\/SqT X.K H p ys)/\Q (.int ys.length) H):=by
 intro P1 s σ H xs us Q I r h;let⟨p,ys,rfl,hq,q⟩:=h;let⟨u,rfl,rx⟩:=vals1 r;cases rx
 let hn:=yY;rcases hq with hq|hq
 ·let⟨its,r',pl,hz⟩:=I.list hq;let hlen:=r'.length;show Calls.call_len_list pl.isList (by simp only[yn] <;> omega) ⟨.int ys.length,H,q1v 0,⟨s.toks+1,by rw[yn,hlen]⟩,q⟩
 ·let⟨its,r',pl,hz⟩:=I.tuple hq;let hlen:=r'.length;show len_tuple pl (by simp only[yn] <;> omega) ⟨.int ys.length,H,q1v 0,⟨s.toks+1,by rw[yn,hlen]⟩,q⟩
theorem gQ.or{f:r_}{r r':z_ V->Hp->VK->Prop}(h:gQ X f r)(h':gQ X f r'):gQ X f (λxs H Q=>r xs H Q\/r' xs H Q):=by
 intro P1 s σ H xs us Q I rs q;rcases q with q|q
 ·show q0t xs us Q I rs q
 ·show h' P1 s σ H xs us Q I rs q
theorem HU:gQ X (.type "list") (λxs H Q=>∃p ys,xs=[.ref p]/\(SqL X.K H p ys\/SqT X.K H p ys)/\∀l,H l=b_->Q (.ref l) (Z_ l (.lst ys))):=by
 intro P1 s σ H xs us Q I r h;let⟨p,ys,rfl,hq,q⟩:=h;let⟨u,rfl,rx⟩:=vals1 r;cases rx
 let fin:∀(its:z_ r_),bH ys its->ys.length<=yo->∀(h':v_)(c':Nat),(∀b o',P2 0=a_ o'->q0D 0=a_ o')->
   h'.get? (e_ s)=a_ {cls:=.type "list",dict:=b_,data:=.seq its.toArray c',slots:=#[]}->q0g Q (.ref (e_ s)) {s with heap:=h'}:=λits r' hz h' c' kp e=>
  ⟨.ref (e_ s),_,I.laid (t':=s.toks) kp (yg _) (show q0x _ h' _ (.lst ys) from⟨hz,its,c',r',e⟩),rfl,q _ (I.hok.fresh (yg _))⟩
 rcases hq with hq|hq
 ·let⟨its,r',pl,hz⟩:=I.list hq;let hlen:=r'.length;let⟨o,ho,hc,n,hd⟩:=pl.isList;show call_list_seq p (.inl rfl) ho hc hd (λh' c' kp e=>fin its r' hz h' c' kp e) (by simp only[yn] <;> omega)
 ·let⟨its,r',pl,hz⟩:=I.tuple hq;let hlen:=r'.length;let⟨o,ho,hc,n,hd⟩:=pl;show call_list_seq p (.inr rfl) ho hc hd (λh' c' kp e=>fin its r' hz h' c' kp e) (by simp only[yn] <;> omega)
theorem G0:gQ X (.type "tuple") (λxs H Q=>∃p ys,xs=[.ref p]/\((SqL X.K H p ys/\∀l,H l=b_->Q (.ref l) (Z_ l (.tup ys)))\/(SqT X.K H p ys/\Q (.ref p) H))):=by
 intro P1 s σ H xs us Q I r h;let⟨p,ys,rfl,h⟩:=h;let⟨u,rfl,rx⟩:=vals1 r;cases rx
 rcases h with⟨hq,q⟩|⟨hq,q⟩
 ·let⟨its,r',pl,hz⟩:=I.list hq;let hlen:=r'.length;refine call_tuple_list pl.isList (λh' kp=>?_) (by simp only[yn] <;> omega);let I1:Q_ {s with heap:=h'}:=I.kept (t':=s.toks) kp;let I2:j_ (Z_ h'.objs.size (.tup ys)) {s with heap:=h'.push {cls:=.type "tuple",data:=.seq its.toArray} }:=I1.laid (t':=s.toks) (λb o e=>yc _ e) (yg _) (show q0x _ _ _ (.tup ys) from⟨hz,its,r',Bl.new _ _⟩)
  show⟨.ref h'.objs.size,_,I2,rfl,q _ (I1.hok.fresh (yg _))⟩
 ·let⟨its,r',pl,hz⟩:=I.tuple hq;show call_tuple_same pl ⟨.ref p,H,I,rfl,q⟩
def tyV(K:yb)(T:String)(x:V)(H:Hp):Prop:=match x with
 |.str _=>T="str"
 |.int _=>T="int"
 | .ref p=>(T="list" /\ ∃ xs,q1y p xs)\/(T="tuple" /\ ∃ o,K.lookup p=a_ o/\o.cls=.type "tuple" /\ o.dict=b_)\/
   (T="dict" /\ ((∃kvs,H p=a_ (.dK kvs))\/∃kvs,H p=a_ (.dT kvs)))\/(T="set" /\ ∃S n,H p=a_ (.set S n))
 |_=>False
theorem Wz{x:V}{v:r_}(I:Q_ s)(r:q1e v)(ty:tyV X.K T x H):
  s.TypeIs v T/\∀a,v=.ref a->∃ob,s.heap.get? a=a_ ob/\ob.dict=b_:=by
 cases x with
 |str z=>
  let⟨t,rfl⟩:=r;cases(show T="str" from ty)
  show⟨typeIs_str s z t,λ_ e=>nomatch e⟩
 |int i=>
  let⟨t,rfl⟩:=r;cases(show T="int" from ty)
  show⟨typeIs_int s i t,λ_ e=>nomatch e⟩
 |ref p=>
  cases r
  rcases ty with⟨rfl,xs,hq⟩|⟨rfl,o,hk,hc,hd⟩|⟨rfl,hk⟩|⟨rfl,S,n,hk⟩
  ·let⟨its,_,pl,_⟩:=I.list hq;refine⟨pl.isList.typeIs,λa e=>?_⟩;cases e
   let⟨o,n,e,c,hd,_⟩:=pl;show⟨o,e,hd⟩
  ·refine⟨⟨o,I.kIn p o hk,hc⟩,λa e=>?_⟩;cases e
   show⟨o,I.kIn _ o hk,hd⟩
  ·let z:∃o,s.heap.get? p=a_ o/\o.ExactDict:=by
    rcases hk with⟨kvs,hk⟩|⟨kvs,hk⟩
    ·let⟨_,_,_,_,o,_,_,e,ex,_⟩:=I.hok p _ hk;show⟨o,e,ex⟩
    ·let⟨_,_,_,_,o,_,_,e,ex,_⟩:=I.hok p _ hk;show⟨o,e,ex⟩
   let⟨o,e,ex⟩:=z;refine⟨⟨o,e,ex.1⟩,λa e2=>?_⟩;cases e2
   show⟨o,e,ex.2.1⟩
  ·let⟨o,_,_,_,e,ex,_⟩:=I.hok p _ hk;refine⟨⟨o,e,ex.1⟩,λa e2=>?_⟩;cases e2
   show⟨o,e,ex.2.1⟩
 |_=>exact y0I ty
def tBM(K:yb)(T:String)(r:V->z_ V->Hp->VK->Prop)(to:TE)(t:TA):TE:=λσ H Q=>to σ H λx H1=>tyV K T x H1/\t σ H1 λxs H2=>r x xs H2 Q
variable{o:x_}{to:TE}{t:TA}{id:String}{r:V->z_ V->Hp->VK->Prop}
theorem Yy(pa:PlainAttrs T)(slot:Slot T name id)(lz:typeOf (.builtin id)=pure (.type "method_descriptor"))(hm:MtR X id r)(ho:PE X o to)(ha:PA X (e::es) t)
  (az:y16 o name X.env (eval o X.env)=eval o X.env:=by rfl)
  (d7:((backTo ai (yz (e::es) X.env)).all (λx=>!x.1)&&(backToKw ai (keywordEach [] X.env)).all (λx=>x.1.isSome)
   && decide ((e::es).length+([]:z_ Keyword).length+(if([]:z_ Keyword).isEmpty then 0 else 1)<30))=true:=by rfl)
  (ba:(apos.endLine == ai.line)=true:=by rfl) (hs:yz (e::es) X.env=(false,q0d 0)::q0e 0:=by rfl) (bw:(backTo ai (q0e 0)).any (·.1)=false:=by rfl):
  PE X (.Call (.Attribute o name apos) (e::es) [] ai) (tBM X.K T r to t):=by
 intro P1 s σ H Q I h;refine wpAny_Call_method_late az d7 ba rfl (thn (ho P1 s σ H _ I h) λv s1 hz=>?_);let⟨x,H1,I1,r1,ty,q1⟩:=hz;let⟨h1,h2⟩:=Wz I1 r1 ty;refine⟨T,id,pa,slot,lz,h1,h2,?_⟩;let hA:=ha ai P1 s1 σ H1 _ I1 q1;rw[hs]at hA⊢;refine y2f (by change(false || (backTo ai (q0e 0)).any (·.1))=false;rw[bw] <;> rfl) (Calls.evalArgs_plain ?_);show thn hA λus s2 ⟨vs,H2,I2,r2,q2⟩=>hm P1 s2 σ H2 x vs v us Q I2 r1 r2 q2
end
def MtM(X:Cx)(id:String)(r:V->z_ V->Hp->VK->Prop):Prop:=
 ∀(P1:gV 0)(s:s_)(σ:St)(H:Hp)(x:V)(xs:z_ V)(v:r_)(us:z_ r_)(Q:VK),Q_ s->q1e v->bH xs us->r x xs H Q->
  wpAny (g_ X) X.A (call (.builtin id) (v::us)) (q0g Q) X.xe s
theorem bH.one:∀{x:V}{us:z_ r_},bH [x] us->∃u,us=[u]/\q1e u
 |_,_,.cons r .nil=>⟨_,rfl,r⟩
variable{l:td}{t':Nat}
section
variable{b:td}{xs ys zs:z_ V}
theorem Inv.lset{f:q0l 0->q0l 0}(I:Q_ s)(hH:H l=a_ (.lst xs))(e:s.heap.get? l=a_ {cls:=.type "list",data:=.seq its.toArray n})(hf:f its.toArray=its'.toArray)(hv:bH ys its')(hz:ys.length<=yo):
  j_ (Z_ l (.lst ys)) {s with heap:=s.heap.update l (zh f),toks:=t'}:=by
 let q:=PySem.IsL.update e f;rw[hf]at q;refine I.write (x:=l) (e:=l) (by rw[hH];show trivial) (.inl rfl) (λb' u hb hu=>(y0J s.heap (zh f) (y1o hb)).trans hu) ⟨_,q⟩ ?_;show⟨hz,its',_,hv,q⟩
theorem Inv.lnew(I:Q_ s)(hv:bH ys its)(hz:ys.length<=yo):
  j_ (Z_ (e_ s) (.lst ys)) {s with heap:=s.heap.push {cls:=.type "list",data:=.seq its.toArray},toks:=t'}:=
 I.laid (λ_ _ q=>yc _ q) (yg _) ⟨hz,its,0,hv,q0O 0⟩
theorem Inv.fresh(I:Q_ s):H (e_ s)=b_:=I.hok.fresh (yg _)
theorem Inv.lstM(I:Q_ s)(hH:H l=a_ (.lst xs)):xs.length<=yo/\∃(its:z_ r_)(n:Nat),bH xs its/\xs.length=its.length/\s.heap.get? l=a_ {cls:=.type "list",data:=.seq its.toArray n}:=by let⟨z,its,n,r,e⟩:=I.hok l _ hH;show⟨z,its,n,r,r.length,e⟩
end
def Na:V->z_ V->Hp->VK->Prop:=λx vs H Q=>∃l xs y,x=.ref l/\vs=[y]/\H l=a_ (.lst xs)/\xs.length<yo/\Q .non (Z_ l (.lst (xs++[y])))
theorem GG:MtM X "list.append" Na:=by
 intro P1 s σ H x vs v us Q I rx rv h;let⟨l,xs,y,rfl,rfl,hH,hz,q⟩:=h;cases rx
 let⟨u,rfl,ru⟩:=rv.one;let⟨z,its,n,r,hl,e⟩:=I.lstM hH;refine call_meets F.slot_list_append ⟨_,e,rfl⟩ F.entry_list_append (F.args_list_append_2 _ _) (PySem.list_append l its.toArray n u (by rw[yn];omega)) ⟨e,?_⟩;refine⟨.non,_,I.lset (its':=its++[u]) hH e (by simp) (r.append (.cons ru .nil)) ?_,rfl,q⟩;rw[y0z,List.length_singleton];omega
def Yz:R2:=λx y H Q=>∃l b xs zs,x=.ref l/\y=.ref b/\H l=a_ (.lst xs)/\H b=a_ (.lst zs)/\xs.length+zs.length<=yo/\∀p,H p=b_->Q (.ref p) (Z_ p (.lst (xs++zs)))
theorem WA:q0C (y0Q .Add) Yz:=by
 intro P1 s σ H x y v u Q I rx ry h;let⟨l,b,xs,zs,rfl,rfl,hH,hB,hz,q⟩:=h;cases rx
 cases ry
 let⟨z,its,n,r,hl,e⟩:=I.lstM hH;let⟨z2,gi,n2,r2,cm,e2⟩:=I.lstM hB;refine PySem.P.add_list e e2 ?_ (by rw[yn,yn];omega);let ea:its.toArray++gi.toArray=(its++gi).toArray:=by simp
 rw[ea];show⟨.ref _,_,I.lnew (t':=s.toks) (r.append r2) (by rw[y0z];omega),rfl,q _ I.fresh⟩
end L2
namespace Att
open PySem PySem.W PySem.Calls PyProof.Rows
variable{P:Params}{h:v_}
theorem CY:∀(ns:z_ Int)(vs:z_ r_),WellAll P h vs (ns.map WData.int)->IntsAre vs ns:=by
 intro ns
 induction ns with
 |nil=>
  intro vs w;rw[List.map_nil]at w;cases w
  show .nil
 |cons n ns ih=>
  intro vs w;rw[yq]at w;cases w with
  |cons a b=>
   cases a
   show .cons _ _ (ih _ b)
variable{args:z_ WData}{l:OpenLaw}{n:Nat}{vals:z_ r_}
theorem Oe(hn:l.most=a_ n)(jm:l.row.toRowW.claim.pre args=true)(u9:WellAll P h vals args):
  ∃a vs ns,vals=[y4 a]/\args=[WData.list (ns.map WData.int)]/\h.get? a=a_ {cls:=.type "list",data:=.seq vs.toArray}/\IntsAre vs ns/\ns.length<=n:=by
 let hsh:WShape.hasAll [] args [.list .int]=true:=(pre_splitW jm).1;let hc:l.pre.holds [] { args:=args}=true:=(pre_splitW jm).2;let⟨d,r,rfl,h1,h2⟩:=hasAllW_cons hsh;obtain rfl:=hasAllW_nil h2;let⟨xs,rfl,h3⟩:=hasW_list h1;let⟨ns,rfl⟩:=items_int h3;let hlen:ns.length<=n:=by
  unfold OpenLaw.pre at hc;let h4:(WTm.not (.lt (.lit (.int (n:Int))) (.len (.arg 0)))).holds [] { args:=[.list (ns.map .int)]}=true:=by let h4:=(holds_andW hc).1;rw[hn]at h4;show h4
  let h5:=condW_of h4 (w_not (w_lt w_lit (w_len_list (w_arg rfl))));rw[yh]at h5;refine Nat.le_of_not_lt λq=>?_;let q':(n:Int)<((ns.length:Nat):Int):=⋯
  first
   |(rw[decide_eq_true q']at h5;show absurd h5 nofun)
   |(simp at h5;omega)
 cases u9 with
 |cons w1 w2=>
  cases w2
  cases w1 with
  |list ho hall=>exact⟨_,_,ns,rfl,rfl,ho,CY ns _ hall,hlen⟩
theorem Of(l:OpenLaw)(args:z_ WData):l.row.toRowW.claim.post args (.bool true) args=true:=
 postW_of (r:=l.row.toRowW) (X:=(true == true))
  (show WShape.has [] (.bool true) .bool=true by first|rfl|decide|simp[WShape.has,WShape.arms,WShape.armsAll])
  (show(WTm.eq .res (.lit (.bool true))).value [] { args:=args,res:=a_ (.bool true),after:=args}=a_ (.bool (true == true)) from w_eq_bool (w_res rfl) w_lit) rfl
variable{XP:(n_ 0)->v_->Prop}{YP:w4->v_->Prop}{loose:z_ Str}
theorem attach_call{q:w_}{d:DefRec}(hn:l.most=a_ n)(p7:d.params.defaults=[])(call:∀(w:w4)(s₀ s₁:s_)(mg mb:n_ 0)(fa:td)(o:Obj)(pm cd doc:r_)(a:td)(vs:z_ r_)(ns:z_ Int),
   Ground q loose [] XP w s₀ mg mb s₁.heap->YP w s₁.heap->
   s₁.heap.get? fa=a_ o->o.data=.func (docDef d.name d.params d.body d.scope pm cd doc)->s₁.heap.CodeRec cd d.name->mg d.name=c_ fa->
   s₁.heap.get? a=a_ {cls:=.type "list",data:=.seq vs.toArray}->IntsAre vs ns->ns.length<=n->s₁.gens=#[]->
   codeAny (model l.prog w) callerA (.call (.ref fa) ⟨[.ref a],[]⟩) (λr s'=>r=.ok (.ret (.bool true))/\OldK s₁.heap s'.heap/\s'.os=s₁.os/\AllBare s'.gens) s₁):
  WalkO q loose XP YP l.row.toRowW d [] (λf vs=>PySem.call f vs):=by
 intro w s₀ s₁ mg mb G Y fa o pm cd doc dV kV ho hd fj hD hmg hg args vals as jm hlay hrd u9 hlo;obtain rfl:dV=.none:=Dflts.none hD p7;obtain rfl:kV=.none:=Dflts.noKw hD;let⟨a,vs,ns,rfl,rfl,l8,hints,hlen⟩:=Oe hn jm u9;refine enter_call (y2C (call w s₀ s₁ mg mb fa o pm cd doc a vs ns G Y ho (fd_plain hd) fj hmg l8 hints hlen hg) λr s' hq=>?_);let⟨rfl,h2,h3,h4⟩:=hq;show⟨.inl ⟨.bool true,.bool true,[],rfl,λ_=>rfl,.bool true,Of l _,λ_=>⟨y2H,λ_ hm=>(nomatch hm)⟩⟩,h2,h3,h4⟩
end Att
namespace L2
theorem GH:∀{vs:z_ r_}{ns:z_ Int},IntsAre vs ns->bH (q1x 0) vs
 |_,_,.nil=>.nil
 |_,_,.cons n t h=>.cons ⟨t,rfl⟩ (GH h)
def Qe(H:Hp):Prop:=∀b,H b=b_\/∃o xs,H b=a_ (.frz o (.lst xs))
variable{CX:CXT}{K:yb}{P:w_}{a:td}{fd:yw}{mg:n_ 0}{ns:z_ Int}{sp:Sp}{s₁:s_}{w:w4}{x:Str}
theorem Qf{mb:n_ 0}{k:Nat}{fa:td}{vs:z_ r_}(KX:K.In s₁.heap)(vm:s₁.heap.Ns z6 mg)(hb:s₁.heap.Ns builtinsNs mb)(k5:∀x:Str,x≠"__name__" -> mb x=y1J x)(uy:s₁.heap.NoLimit)(hg:s₁.gens=#[])(ha:s₁.heap.get? a=a_ {cls:=.type "list",data:=.seq vs.toArray})(hi:IntsAre vs ns)(hl:ns.length<=yo)(hr:lV k callerA)(F:∀base:v_,K.In base->base.Ns z6 mg->bD P w K mg base CX k fa fd [x] sp)(oq:∀(s:s_)(u:r_),BindsTo s fd ⟨[u],[]⟩ [(x,u)])(jr:∀H:Hp,Qe H->q1y a (q1x 0)->sp [.ref a] H (λv _=>v=.bl true) λ_ _ _=>False)(tw:∀H e s',CX [] H s₁ (λ_ _ _=>False) e s'->False):
  codeAny (model P w) callerA (.call (.ref fa) ⟨[.ref a],[]⟩) (λr s'=>r=.ok (.ret (.bool true))/\OldK s₁.heap s'.heap/\s'.os=s₁.os/\AllBare s'.gens) s₁:=by
 let rv:=GH hi;let r9:=hi.length
 -- from an abstract heap in which nothing but the script may be tracked
 let core:∀H:Hp,Qe H->q1y a (q1x 0)->q1l s₁.heap->(∀b,H b≠b_->b=a)->(H a≠b_->K.lookup a=b_)->
   codeAny (model P w) callerA (.call (.ref fa) ⟨[.ref a],[]⟩) (λr s'=>r=.ok (.ret (.bool true))/\OldK s₁.heap s'.heap/\s'.os=s₁.os/\AllBare s'.gens) s₁:=by
  intro H hO hS hok hA hK;let d9:∀{b:td}{o:Obj},s₁.heap.get? b=a_ o->H b=b_->(HJ s₁.heap H).get? b=a_ o:=λe n=>PJ e n;let pe:∀{b:td}{o:Obj}{es:q1m 0}{ep:Nat},s₁.heap.get? b=a_ o->o.data=.dict es ep->H b=b_:=λ{b o es ep} e d=>by
   cases q:H b with
   |none=>rfl
   |some u=>have e':b=a:=hA b (by rw[q];simp);subst e';rw[ha]at e;cases e;let d':Data.seq vs.toArray _=Data.dict es ep:=d;cases d'
  let p9:∀{b:td}{m:n_ 0},s₁.heap.Ns b m->(HJ s₁.heap H).Ns b m:=λ{b m} ⟨o,es,ep,e,d,r⟩=>⟨o,es,ep,d9 e (pe e d),d,r⟩;let vi:K.In (HJ s₁.heap H):=λb o e=>d9 (KX b o e) (by
   cases q:H b with
   |none=>rfl
   |some u=>have e':b=a:=hA b (by rw[q];simp);subst e';rw[hK (by rw[q];simp)]at e;cases e)
  let hM:Mod K mg (HJ s₁.heap H):=⟨vi,p9 vm,⟨mb,p9 hb,k5⟩,let ⟨mc,h1,h2⟩:=uy;⟨mc,p9 h1,h2⟩⟩;let e0:FY P w K mg (HJ s₁.heap H) callerA [] s₁ H:=⟨rfl,hM,λb o e=>Td e,Nat.le_of_eq (O3 _ _),trivial,λb hb=>absurd (show b∈([]:z_ td) from hb) (by simp),hok,.of_eq hg⟩
  refine y2C ((F _ vi (p9 vm)).run callerA [] s₁ H ⟨[.ref a],[]⟩ [.ref a] [.ref a] _ _ hr e0 (oq s₁ (.ref a)) (.cons rfl .nil) (jr H hO hS)) λr s' h=>?_;cases r with
  |error e=>exact(tw H e s' h).elim
  |ok fl=>
   cases fl with
   |next=>exact y0I h
   |brk=>exact y0I h
   |cont=>exact y0I h
   |ret u=>
    let⟨v,H',os,bare,un,u3,r',q⟩:=h;let q':v=.bl true:=q;subst q';obtain rfl:u=Value.bool true:=r';refine⟨rfl,OldK.of_keep λb o e=>?_,os,bare⟩;cases q:H b with
    |none=>exact un.keep b o e q (by intro z;show absurd (show b∈([]:z_ td) from z) (by simp)) (by simp)
    |some u=>
     rcases hO b with z|⟨ob,xs,z⟩
     ·rw[q]at z;cases z
     ·let z2:=un.frzs b ob _ z;let⟨e1,_⟩:=hok b _ z;let⟨e2,_⟩:=u3 b _ z2;rw[e]at e1;cases e1;show e2
 cases hk:K.lookup a with
 |some o=>
  -- the script is one of the module's own objects
  let e:=KX a o hk;rw[ha]at e;cases e
  refine core (λ_=>b_) (λ_=>.inl rfl) (.inr ⟨_,vs.toArray,_,hk,rfl,rfl,rfl,by rw[yn,r9];show hl,k_ rv⟩) (λb u z=>by let z':(b_:A_ HO)=a_ u:=z;cases z') (λb z=>absurd rfl z) λz=>absurd rfl z
 |none=>
  refine core (λb=>if b=a then a_ (.frz {cls:=.type "list",data:=.seq vs.toArray} (.lst (q1x 0))) else b_) (λb=>?_) (.inl (.inr ⟨{cls:=.type "list",data:=.seq vs.toArray},q0k 0⟩)) (λb u z=>?_) (λb z=>?_) λ_=>hk
  ·by_cases hb:b=a
   ·show .inr ⟨_,_,if_pos hb⟩
   ·show .inl (if_neg hb)
  ·by_cases hb:b=a
   ·let z':=(if_pos hb).symm.trans z;cases z'
    subst hb;show⟨ha,by rw[yh];show hl,vs,_,rv,ha⟩
   ·let z':=(if_neg hb).symm.trans z;cases z'
  ·by_cases hb:b=a
   ·show hb
   ·show absurd (if_neg hb) z
variable{XP:(n_ 0)->v_->Prop}{YP:w4->v_->Prop}{loose:z_ Str}{n:Nat}
theorem walk_of{l:PySem.W.OpenLaw}{k:Nat}{q:w_}{d:DefRec}{K:Params->yb}{CX:w4->CXT}{sp:w4->Sp}(hn:l.most=a_ n)(ql:n<=yo)(p7:d.params.defaults=[])(hr:lV k callerA)(hY:∀(w:w4)(h:v_),YP w h->(K w.params).In h)(F:∀(w:w4)(mg:n_ 0)(fa:td)(h:v_),(K w.params).In h->h.Ns z6 mg->mg d.name=c_ fa->
   ∃fd:yw,(∀(s:s_)(u:r_),BindsTo s fd ⟨[u],[]⟩ [(x,u)])/\
    ∀base:v_,(K w.params).In base->base.Ns z6 mg->bD l.prog w (K w.params) mg base (CX w) k fa fd [x] (sp w))(jr:∀(w:w4)(H:Hp)(a:td)(ns:z_ Int),ns.length<=n->Qe H->SqL (K w.params) H a (q1x 0)->sp w [.ref a] H (λv _=>v=.bl true) λ_ _ _=>False)(tw:∀(w:w4)(H:Hp)(s:s_)(e:r_)(s':s_),CX w [] H s (λ_ _ _=>False) e s'->False):
  PySem.W.WalkO q loose XP YP l.row.toRowW d [] (λf vs=>PySem.call f vs):=by
 refine Att.attach_call hn p7 λw s₀ s₁ mg mb fa o pm cd doc a vs ns G Y ho hd fj hmg l8 hints hlen hg=>?_;let KX:=hY w _ Y;let⟨fd,hb,hF⟩:=F w mg fa _ KX G.T.g hmg;show Qf KX G.T.g G.T.b G.T.builtins G.T.nolimit hg l8 hints (ze hlen ql) hr hF hb (λH hO hS=>jr w H a ns hlen hO hS) λH e s'=>tw w H s₁ e s'
def inClass(s:y_)(j:Nat):y_:=match s with
 |.ClassDef _ _ _ body _ _ _ _ _ _ _=>body.getD j (.Pass ⟨0,0,0,0⟩)
 |_=>.Pass ⟨0,0,0,0⟩
def lX(s:y_):Arguments:=match s with
 |.FunctionDef _ a _ _ _ _ _ _ _ _=>a
 |_=>{ posonlyargs:=[],args:=[],vararg:=b_,kwonlyargs:=[],kw_defaults:=[],kwarg:=b_,defaults:=[]}
def jP(s:y_):z_ y_:=match s with
 |.FunctionDef _ _ b _ _ _ _ _ _ _=>b
 |_=>[]
def aO(s:y_):Scope:=match s with
 |.FunctionDef _ _ _ _ _ _ sc _ _ _=>sc
 |_=>{ kind:=.function,names:=[],isGenerator:=false,isCoroutine:=false}
abbrev CX0:CXT:=λ_ _ _ _ _ _=>False
abbrev E0:XK:=λ_ _ _=>False
variable{X:Cx}
theorem GI:yZ CX0 X E0:=λ_ _ _ _ _ _ _ h=>h.elim
structure Fun(K:yb)(x qual:Str)(st:y_)(f:td)(fd:yw):Prop where
 ex:∃(oc:r_)(od:A_ td)(kV doc pm:r_)(an:A_ td)(cdv ct:r_)(osl:m_ 0),
  fd=y04 x qual (lX st) (jP st) (aO st) .none kV doc pm an cdv ct/\K.lookup f=some ⟨oc,od,.func fd,osl⟩/\y2w K cdv qual=true
 kp:Io K (.ref f)=true
variable{N ps:z_ Str}{base:v_}{qual:Str}{st:y_}
theorem Fun.ok{f:td}{k:Nat}(F:q0F x qual st f fd)(S:aV N ps (aO st))(len:∀vs H Q E,sp vs H Q E->vs.length=ps.length)(gu:∀(cdv:r_)(A:u_)(outer:z_ Env)(s:s_)(H:Hp)(vs:z_ V)(Q:VK)(E:XK),lV k (A.deeper (envOfC qual (aO st) (e_ s) f cdv))->sp vs H Q E->
   ∃t,PSs (LA CX0 P w K mg base N qual (aO st) f cdv A outer s H E).nox (jP st) t/\t { nx:=λ_ H'=>Q .non H',rt:=Q} (start N vs) H):q_ (k+1) f fd ps sp:=by
 let⟨oc,od,kV,doc,pm,an,cdv,ct,osl,rfl,lk,fj⟩:=F.ex;refine Yt lk fj S len λA outer s H vs Q E hr jr=>?_;let⟨t,h,q⟩:=gu cdv A outer s H vs Q E hr jr;show⟨t,h.nox,q⟩
theorem Fun.binds{f:td}(F:q0F x qual st f fd)(h:∀(kV doc pm:r_)(an:A_ td)(cdv ct:r_)(us:z_ r_),us.length=ps.length->bindArgs (y04 x qual (lX st) (jP st) (aO st) .none kV doc pm an cdv ct) ⟨us,[]⟩=pure (ps.zip us)):Binds K fd ps []:=by let⟨oc,od,kV,doc,pm,an,cdv,ct,osl,rfl,lk,fj⟩:=F.ex;show .all (h kV doc pm an cdv ct)
variable{an od:A_ td}{cdv ct doc pm:r_}{osl:m_ 0}
theorem E7{f:td}{oc:r_}{kV:r_}(l:K.lookup f=a_ ⟨oc,od,.func (y04 x qual (lX st) (jP st) (aO st) .none kV doc pm an cdv ct),osl⟩)(c:y2w K cdv qual=true)(k:Io K (.ref f)=true):q0F x qual st f (y04 x qual (lX st) (jP st) (aO st) .none kV doc pm an cdv ct):=⟨⟨oc,od,kV,doc,pm,an,cdv,ct,osl,rfl,l,c⟩,k⟩
variable{A:u_}
theorem YA{k:Nat}(hr:lV k A):A.units+1<cLine:=Nat.lt_of_le_of_lt (Nat.add_le_add_left (by decide:1<=64) _) hr.units
variable{B:Prop}
theorem LF{A:Prop}(h:B):if false=true then A else B:=by rw[if_neg yl];show h
theorem LG{A:Prop}(h:A):if true=true then A else B:=by rw[q0k 0];show h
def E8(H H':Hp):Prop:=∀b o,H b=a_ o->H' b=a_ o
variable{u:r_}{y:V}
section
variable{κ:Type}[q0P 0]
def vC(kvs:z_ (κ×V))(k:κ):A_ V:=(kvs.find? λkv=>decide (kv.1=k)).map (·.2)
def putK(kvs:z_ (κ×V))(k:κ)(v:V):z_ (κ×V):=if(kvs.any λkv=>decide (kv.1=k))=true then kvs.map (λkv=>if kv.1=k then(kv.1,v) else kv) else kvs++[(k,v)]
theorem Ai{p:κ×V}{r:z_ (κ×V)}{k:κ}(e:p.1=k):vC (p::r) k=a_ p.2:=by simp[vC,y1h,e]
theorem Aj{p:κ×V}{r:z_ (κ×V)}{k:κ}(e:¬ p.1=k):vC (p::r) k=vC r k:=by simp[vC,y1h,e]
theorem E9(k:κ):∀kvs:z_ (κ×V),(kvs.any λkv=>decide (kv.1=k))=(vC kvs k).isSome
 |[]=>rfl
 |p::r=>by
  rw[y18];by_cases e:p.1=k
  ·simp only[Ai e,decide_eq_true e,Bool.true_or,y2E]
  ·rw[Aj e,decide_eq_false e,Bool.false_or];show E9 k r
theorem CA(kvs:z_ (κ×V))(k:κ)(v:V):(putK kvs k v).length<=kvs.length+1:=by
 unfold putK;split
 ·rw[yh];omega
 ·rw[y0z,zt,y2j];omega
theorem vB.isSome_eq{o:A_ V}{u:A_ r_}(r:vB o u):o.isSome=u.isSome:=by
 cases o with
 |none=>cases u with
  |none=>rfl
  |some _=>exact(show False from r).elim
 |some _=>cases u with
  |none=>exact(show False from r).elim
  |some _=>rfl
theorem vB.getD{o:A_ V}{u:A_ r_}{d:V}{d':r_}(r:vB o u)(rd:RelV d d'):RelV (o.getD d) (u.getD d'):=by
 cases o with
 |none=>cases u with
  |none=>exact rd
  |some _=>exact(show False from r).elim
 |some _=>cases u with
  |none=>exact(show False from r).elim
  |some _=>exact r
theorem KV.val{kvs:z_ (κ×V)}{vs:z_ (κ×r_)}(r:KV kvs vs)(k:κ):vB (vC kvs k) (valueAt vs k):=by
 unfold KV at r
 induction r with
 |nil=>exact y08
 | @cons p q ps qs h t ih=>
  let⟨h1,h2⟩:=h;by_cases e:p.1=k
  ·let e':q.1=k:=h1.symm.trans e;let b:valueAt (q::qs) k=a_ q.2:=by simp[valueAt,y1h,e']
   rw[Ai e,b];show h2
  ·let e':¬ q.1=k:=λz=>e (h1.trans z);let b:valueAt (q::qs) k=valueAt qs k:=by simp[valueAt,y1h,e']
   rw[Aj e,b];show ih
theorem KV.any{kvs:z_ (κ×V)}{vs:z_ (κ×r_)}(r:KV kvs vs)(k:κ):(kvs.any λkv=>decide (kv.1=k))=vs.any λkv=>decide (kv.1=k):=by
 unfold KV at r
 induction r with
 |nil=>rfl
 |cons h t ih=>rw[y18,y18,ih,h.1]
theorem KV.repl{kvs:z_ (κ×V)}{vs:z_ (κ×r_)}(r:KV kvs vs)(k:κ)(ry:RelV y u):
  KV (kvs.map λkv=>if kv.1=k then(kv.1,y) else kv) (vs.map λkv=>if kv.1=k then(kv.1,u) else kv):=by
 unfold KV at r⊢
 induction r with
 |nil=>exact .nil
 | @cons p q ps qs h t ih=>
  rw[yq,yq];refine .cons ?_ ih;let⟨h1,h2⟩:=h;by_cases e:p.1=k
  ·rw[if_pos e,if_pos (h1.symm.trans e)];show⟨h1,ry⟩
  ·rw[if_neg e,if_neg (λz=>e (h1.trans z))];show⟨h1,h2⟩
theorem KV.put{kvs:z_ (κ×V)}{vs:z_ (κ×r_)}(r:KV kvs vs)(k:κ)(ry:RelV y u):KV (putK kvs k y) (stored vs k u):=by
 unfold putK stored;rw[r.any k];by_cases e:(vs.any λkv=>decide (kv.1=k))=true
 ·rw[if_pos e,if_pos e];show r.repl k ry
 ·rw[if_neg e,if_neg e];show Paired.snoc r ⟨rfl,ry⟩
theorem KV.length{kvs:z_ (κ×V)}{vs:z_ (κ×r_)}(r:KV kvs vs):kvs.length=vs.length:=y0b r
end
theorem CB{k:Key}(r:RelV (kV k) u):(cS P w).is k u=true:=by
 cases k with
 |inl i=>let⟨t,e⟩:=(show ∃t,u=Value.int i t from r);subst e;show Jt P w i t
 |inr x=>let⟨t,e⟩:=(show ∃t,u=Value.str x t from r);subst e;show Cu P w x t
theorem GJ{P:w_}{w:w4}:∀{ks:z_ Key}{us:z_ r_},bH (ks.map kV) us->ItemsAre (cS P w) ks us
 |[],_,r=>by rw[List.map_nil]at r;cases r;show .nil
 |k::ks,_,r=>by
  rw[yq]at r;cases r with
  |cons h t=>exact .cons (CB h) (GJ t)
abbrev KT(H:Hp):z_ (z_ Key×V)->z_ (z_ Key×td×r_)->Prop:=Paired λp q=>p.1=q.1/\H q.2.1=a_ (.tup (p.1.map kV))/\RelV p.2 q.2.2
variable{H:Hp}
theorem KT.val{kvs:z_ (z_ Key×V)}{xs:z_ (z_ Key×td×r_)}(r:KT H kvs xs)(k:z_ Key):vB (vC kvs k) ((atKey xs k).map (·.2)):=by
 induction r with
 |nil=>exact y08
 | @cons p q ps qs h t ih=>
  let⟨h1,_,h2⟩:=h;by_cases e:p.1=k
  ·let e':q.1=k:=h1.symm.trans e;let b:atKey (q::qs) k=a_ q.2:=by simp[atKey,y1h,e']
   rw[Ai e,b];show h2
  ·let e':¬ q.1=k:=λz=>e (h1.trans z);let b:atKey (q::qs) k=atKey qs k:=by simp[atKey,y1h,e']
   rw[Aj e,b];show ih
theorem KT.repl{kvs:z_ (z_ Key×V)}{xs:z_ (z_ Key×td×r_)}(r:KT H kvs xs)(k:z_ Key)(ry:RelV y u):
  KT H (kvs.map λkv=>if kv.1=k then(kv.1,y) else kv) (xs.map (putAt k u)):=by
 induction r with
 |nil=>exact .nil
 | @cons p q ps qs h t ih=>
  rw[yq,yq];refine .cons ?_ ih;let⟨h1,h2,h3⟩:=h;unfold putAt;by_cases e:p.1=k
  ·rw[if_pos e,if_pos (h1.symm.trans e)];show⟨h1,h2,ry⟩
  ·rw[if_neg e,if_neg (λz=>e (h1.trans z))];show⟨h1,h2,h3⟩
theorem KT.put{kvs:z_ (z_ Key×V)}{xs:z_ (z_ Key×td×r_)}(r:KT H kvs xs)(k:z_ Key){b:td}(hb:H b=a_ (.tup (k.map kV)))(ry:RelV y u):
  KT H (putK kvs k y) (storedH xs k b u):=by
 let e:(kvs.any λkv=>decide (kv.1=k))=(atKey xs k).isSome:=by rw[E9,(r.val k).isSome_eq,y2q]
 unfold putK storedH;rw[e];by_cases q:(atKey xs k).isSome=true
 ·rw[if_pos q,if_pos q];show r.repl k ry
 ·rw[if_neg q,if_neg q];show Paired.snoc r ⟨rfl,hb,ry⟩
variable{H':Hp}
theorem KT.keeps{kvs:z_ (z_ Key×V)}{xs:z_ (z_ Key×td×r_)}(r:KT H kvs xs)(ht:∀b ys,H b=a_ (.tup ys)->H' b=a_ (.tup ys)):KT H' kvs xs:=Paired.mapP r λ_ _ z=>⟨z.1,ht _ _ z.2.1,z.2.2⟩
theorem VH{h:v_}{u:HO}(ok:q1l h)(e:Rd H a u):fD P w H h a u:=e.ok ok
theorem CC{h:v_}{kvs:z_ (Key×V)}(ok:q1l h)(e:Rd H a (.dK kvs)):kvs.length<=yo/\(a == y0o)=false/\∃vs,KV kvs vs/\h.DictOf (cS P w) a vs:=show fD P w H h a (.dK kvs) from VH ok e
theorem JB{h:v_}{kvs:z_ (Key×V)}(ok:q1l h)(e:H a=a_ (.dK kvs)):kvs.length<=yo/\(a == y0o)=false/\∃vs,KV kvs vs/\h.DictOf (cS P w) a vs:=CC ok (.inl e)
theorem zA{h:v_}{ks:z_ Key}(ok:q1l h)(e:H a=a_ (.tup (ks.map kV))):(tupleKind (cS P w)).is h ks a:=by
 let⟨_,its,r,o,h1,h2,⟨n,h3⟩,_⟩:=(show fD P w H h a (.tup (ks.map kV)) from ok a _ e)
 show⟨o,its.toArray,n,h1,h2,h3,by simpa using GJ r⟩
theorem Ea{h:v_}{kvs:z_ (z_ Key×V)}(ok:q1l h)(e:Rd H a (.dT kvs)):kvs.length<=yo/\(a == y0o)=false/\
  ∃xs,KT H kvs xs/\h.DictOfH (tupleKind (cS P w)) a xs:=by
 let⟨z,y,xs,r,o,es,ep,h1,h2,h3,h4,h5⟩:=(show fD P w H h a (.dT kvs) from VH ok e)
 refine⟨z,y,xs,r,o,es,ep,h1,h2,h3,h4,λx hx=>?_,h5⟩;let all:∀{l:z_ (z_ Key×V)}{m:z_ (z_ Key×td×r_)},KT H l m->∀x∈m,(tupleKind (cS P w)).is h x.1 x.2.1:=by
  intro l m q
  induction q with
  |nil=>intro x hx;show nomatch hx
  | @cons p q ps qs hq t ih=>
   intro x hx;rcases yr.mp hx with e|hx
   ·subst e;show zA ok (by rw[<-hq.1];show hq.2.1)
   ·show ih x hx
 show all r x hx
theorem YB{h:v_}{kvs:z_ (z_ Key×V)}(ok:q1l h)(e:H a=a_ (.dT kvs)):kvs.length<=yo/\(a == y0o)=false/\
  ∃xs,KT H kvs xs/\h.DictOfH (tupleKind (cS P w)) a xs:=Ea ok (.inl e)
def zB(H:Hp)(a:td)(y:V)(r:A_ V):Prop:=(∃kvs k,Rd H a (.dK kvs)/\y=kV k/\r=vC kvs k)\/∃kvs k b,Rd H a (.dT kvs)/\y=.ref b/\H b=a_ (.tup (k.map kV))/\r=vC kvs k
def WB(H:Hp)(a:td)(y v:V)(H':Hp):Prop:=
 (∃kvs k,H a=a_ (.dK kvs)/\y=kV k/\kvs.length<yo/\H'=Z_ a (.dK (putK kvs k v)))\/
 ∃kvs k b,H a=a_ (.dT kvs)/\y=.ref b/\H b=a_ (.tup (k.map kV))/\kvs.length<yo/\H'=Z_ a (.dT (putK kvs k v))
theorem zB.k{H:Hp}{a:td}{kvs:z_ (Key×V)}{k:Key}(e:H a=a_ (.dK kvs)):zB H a (kV k) (vC kvs k):=.inl ⟨kvs,k,.inl e,rfl,rfl⟩
theorem WB.k{H:Hp}{a:td}{kvs:z_ (Key×V)}{k:Key}{v:V}(e:H a=a_ (.dK kvs))(hl:kvs.length<yo):WB H a (kV k) v (Z_ a (.dK (putK kvs k v))):=.inl ⟨kvs,k,e,rfl,hl,rfl⟩
variable{P1:gV 0}{s:s_}{σ:St}
theorem Inv.big(I:Q_ s):y0o<(e_ s):=by let h:z6<(e_ s):=(I.mod.glob.keeps I.bk).lt;show Nat.lt_trans nofun h
variable{E Q:f_ 0}{v:V}
theorem Og(hu:A.units+1<cLine)(I:Q_ s)(g:zB H a y (a_ v))(ry:RelV y u)(h:∀w' s',Q_ s'->RelV v w'->Q w' s'):
  wpAny (g_ X) A (getItem (.ref a) u) Q E s:=by
 rcases g with⟨kvs,k,e,ey,l⟩|⟨kvs,k,b,e,ey,eb,l⟩
 ·subst ey;let⟨z,hd,vs,rel,dd⟩:=CC I.hok e;let⟨w',hw,cb⟩:=vB.some_of (v:=v) (o:=valueAt vs k) (by rw[l];show rel.val k);show wpAny_getItem_of (CB ry) dd.mapOf hw (h w' _ (q1v 0) cb)
 ·subst ey;cases(show u=y4 b from ry)
  let⟨z,hd,xs,rel,dd⟩:=Ea I.hok e;let⟨w',hw,cb⟩:=vB.some_of (v:=v) (o:=(atKey xs k).map (·.2)) (by rw[l];show rel.val k);let⟨p,hp,hp2⟩:=zq.mp hw;refine wpAny_getItem_heap (y1K hu) (zA I.hok eb) dd hp ?_;rw[hp2];show h w' _ (q1v 0) cb
theorem zas{o:A_ V}(hu:A.units+1<cLine)(I:Q_ s)(g:zB H a y o)(ry:RelV y u)(h:∀s',Q_ s'->Q (.bool o.isSome) s'):
  wpAny (g_ X) A (zc .In u (.ref a)) Q E s:=by
 rcases g with⟨kvs,k,e,ey,l⟩|⟨kvs,k,b,e,ey,eb,l⟩
 ·subst ey;let⟨z,hd,vs,rel,dd⟩:=CC I.hok e;refine wpAny_in_of (CB ry) hd dd.mapOf ?_;rw[<-(rel.val k).isSome_eq,<-l];show h _ (q1v 0)
 ·subst ey;cases(show u=y4 b from ry)
  let⟨z,hd,xs,rel,dd⟩:=Ea I.hok e;refine wpAny_in_heap (y1K hu) (zA I.hok eb) hd dd ?_;let q:=(rel.val k).isSome_eq;rw[y2q]at q;rw[<-q,<-l];show h _ (q1v 0)
theorem TJ{o:A_ V}(hu:A.units+1<cLine)(I:Q_ s)(g:zB H a y o)(ry:RelV y u)(h:∀s',Q_ s'->Q (.bool (!o.isSome)) s'):
  wpAny (g_ X) A (zc .NotIn u (.ref a)) Q E s:=by
 rcases g with⟨kvs,k,e,ey,l⟩|⟨kvs,k,b,e,ey,eb,l⟩
 ·subst ey;let⟨z,hd,vs,rel,dd⟩:=CC I.hok e;refine wpAny_notIn_of (CB ry) hd dd.mapOf ?_;rw[<-(rel.val k).isSome_eq,<-l];show h _ (q1v 0)
 ·subst ey;cases(show u=y4 b from ry)
  let⟨z,hd,xs,rel,dd⟩:=Ea I.hok e;refine wpAny_notIn_heap (y1K hu) (zA I.hok eb) hd dd ?_;let q:=(rel.val k).isSome_eq;rw[y2q]at q;rw[<-q,<-l];show h _ (q1v 0)
variable{h':v_}{t':Nat}
theorem DB{ob:HO}(I:Q_ s)(mu:Mut (H a))(hs:y1w a s.heap h')(he:∃q,h'.get? a=a_ q)(new:q0x (Z_ a ob) h' a ob):
  j_ (Z_ a ob) {s with heap:=h',toks:=t'}:=
 I.write (x:=a) (e:=a) mu (.inl rfl) (λb q hb z=>(hs.2 b hb).trans z) he new
theorem WC{kvs:z_ (Key×V)}{vs:z_ (Key×r_)}(z:kvs.length<=yo)(hd:(a == y0o)=false)(rel:KV kvs vs)(dd:h'.DictOf (cS P w) a vs):
  fD P w H' h' a (.dK kvs):=⟨z,hd,vs,rel,dd⟩
theorem Oh{r:r_}{Q:jn Unit}(hu:A.units+1<cLine)(I:Q_ s)(g:WB H a y v H')(ry:RelV y u)(rv:RelV v r)(h:∀s',j_ H' s'->Q () s'):
  wpAny (g_ X) A (setItem (.ref a) u r) Q E s:=by
 rcases g with⟨kvs,k,e,ey,l,eH⟩|⟨kvs,k,b,e,ey,eb,l,eH⟩
 ·subst ey eH;let⟨z,hd,vs,rel,dd⟩:=JB I.hok e;let hz:vs.length<=yo:=by rw[<-rel.length];show z
  let hl:(putK kvs k v).length<=yo:=by have:=CA kvs k v;omega
  refine wpAny_setItem_pairs (hsz:=hz) (CB ry) dd λh' jv hs=>h _ ?_;let he:∃q,h'.get? a=a_ q:=let ⟨q,_,_,hq,_⟩:=jv;⟨q,hq⟩;show DB I (by rw[e];show y08) hs he (WC hl hd (rel.put k rv) jv)
 ·subst ey eH;cases(show u=y4 b from ry)
  let⟨z,hd,xs,rel,dd⟩:=YB I.hok e;let hz:xs.length<=yo:=by rw[<-y0b rel];show z
  let hl:(putK kvs k v).length<=yo:=by have:=CA kvs k v;omega
  refine wpAny_setItem_heap (hsz:=hz) (y1K hu) (zA I.hok eb) dd λh' jv hs=>h _ ?_;let⟨q,es,ep,hq,h2,h3,h4,_,h5⟩:=jv;refine DB I (by rw[e];show y08) hs ⟨q,hq⟩ ⟨hl,hd,_,(rel.put k eb rv).keeps λc ys ec=>?_,q,es,ep,hq,h2,h3,h4,h5⟩;rw[bA (Yf ec e (λz=>q0N 0))];show ec
theorem YC{kvs:z_ (Key×V)}(I:Q_ s)(e:Rd H a (.dK kvs))(h:∀t s',Q_ s'->Q (.int kvs.length t) s'):wpAny (g_ X) A (call (.builtin "len") [.ref a]) Q E s:=by let⟨z,hd,vs,rel,dd⟩:=CC I.hok e;refine call_len_dict hd dd (by rw[<-rel.length];rw[zr]at z;omega) ?_;rw[<-rel.length];show h _ _ (q1v 0)
theorem JC{o:A_ V}(I:Q_ s)(g:zB H a y o):s.TypeIs (.ref a) "dict" := by
 rcases g with⟨kvs,k,e,_,_⟩|⟨kvs,k,b,e,_,_,_⟩
 ·let⟨_,_,vs,_,dd⟩:=CC I.hok e;show dd.typeIs
 ·let⟨_,_,xs,_,dd⟩:=Ea I.hok e;show dd.typeIs
theorem JD(h:v_)(hb:y0o<h.objs.size):fD P w H (h.push {cls:=.type "dict",data:=.dict #[]}) h.objs.size (.dK []):=⟨y9 _,beq_eq_false_iff_ne.mpr (y1o (yt hb)),[],.nil,Heap.DictOf.new h⟩
def WD:TE:=λ_ H Q=>∀p,H p=b_->Q (.ref p) (Z_ p (.dK []))
variable{pos:Pos}
theorem Qg:PE X (.Dict [] [] pos) WD:=λP1 s σ H Q I h=>wpAny_Dict_empty ⟨.ref (e_ s),_,I.laid (a:=(e_ s)) (o:=.dK []) (t':=s.toks) (λ_ _ q=>yc _ q) (yg _) (JD s.heap I.big),rfl,h _ (I.hok.fresh (yg _))⟩
theorem WE{o:A_ V}(hu:A.units+1<cLine)(I:Q_ s)(g:zB H a y o)(ry:RelV y u)(h:∀w' s',Q_ s'->RelV (o.getD .non) w'->Q w' s'):
  wpAny (g_ X) A (call (.builtin "dict.get") [.ref a,u]) Q E s:=by
 rcases g with⟨kvs,k,e,ey,l⟩|⟨kvs,k,b,e,ey,eb,l⟩
 ·subst ey;let⟨z,hd,vs,rel,dd⟩:=CC I.hok e;refine q1f (y19 _ _) (meets_dict_get (cS X.prog X.w) a (CB ry) hd) ⟨_,dd.mapOf,h _ _ (q1v 0) ?_⟩;rw[l];show(rel.val k).getD rfl
 ·subst ey;cases(show u=y4 b from ry)
  let⟨z,hd,xs,rel,dd⟩:=Ea I.hok e;refine q1f (y19 _ _) (meetsH_dict_get (tupleKind (cS X.prog X.w)) a b hd) ⟨y1K hu,k,xs,zA I.hok eb,dd,h _ _ (q1v 0) ?_⟩;rw[l];show(rel.val k).getD rfl
theorem WG{d:V}{r:r_}{o:A_ V}(hu:A.units+1<cLine)(I:Q_ s)(g:zB H a y o)(ry:RelV y u)(rd:RelV d r)(h:∀w' s',Q_ s'->RelV (o.getD d) w'->Q w' s'):
  wpAny (g_ X) A (call (.builtin "dict.get") [.ref a,u,r]) Q E s:=by
 rcases g with⟨kvs,k,e,ey,l⟩|⟨kvs,k,b,e,ey,eb,l⟩
 ·subst ey;let⟨z,hd,vs,rel,dd⟩:=CC I.hok e;refine q1f (PySem.F.args_dict_get_3 _ _ _) (meets_dict_get_default (cS X.prog X.w) a (CB ry) hd r) ⟨_,dd.mapOf,h _ _ (q1v 0) ?_⟩;rw[l];show(rel.val k).getD rd
 ·subst ey;cases(show u=y4 b from ry)
  let⟨z,hd,xs,rel,dd⟩:=Ea I.hok e;refine q1f (PySem.F.args_dict_get_3 _ _ _) (meetsH_dict_get_default (tupleKind (cS X.prog X.w)) a b hd r) ⟨y1K hu,k,xs,zA I.hok eb,dd,h _ _ (q1v 0) ?_⟩;rw[l];show(rel.val k).getD rd
theorem Oi:gQ X (.builtin "len") (λxs H Q=>∃a kvs,xs=[V.ref a]/\H a=a_ (.dK kvs)/\Q (.int kvs.length) H):=by
 intro P1 s σ H xs us Q I r h;let⟨a,kvs,rfl,ha,q⟩:=h;let⟨u,rfl,ru⟩:=vals1 r;cases ru
 show YC I (.inl ha) λt s' I'=>⟨.int kvs.length,H,I',⟨t,rfl⟩,q⟩
def Nb(ifs:z_ x_)(env:Env):Sem Bool:=forIn ifs true λc r=>if r=true then do let ok <-isTrue c env (eval c env);pure (ForInStep.yield ok) else pure (ForInStep.yield r)
variable{R:jn Result}{env:Env}{ifs:z_ x_}{iter:x_}{prog:w_}{scope:Scope}
theorem HV{elt target:x_}{it acc:r_}(I:jn Nat)(turn:∀n s,I n s->C_ (pyNext it) (λr s₁=>match r with
   |none=>R (.ok .next) s₁
   | some v=>C_ (letOwnedTupleGo target it v) (fun _ w9=>C_ (assign target env v) (fun _ s₂=>
     C_ (Nb ifs env) (λok s₃=>
      if ok=true then l_ prog w A (eval elt env) (λx s₄=>C_ (call (.builtin "list.append") [acc,x]) (λ_ s₅=>∃m,m<n/\I m s₅) (λ_ _=>False) s₄) (λ_ _=>False) s₃
      else ∃m,m<n/\I m s₃) (λ_ _=>False) s₂) (λ_ _=>False) w9) (λ_ _=>False) s₁) (λ_ _=>False) s)(n:Nat)(h:I n s):
  codeAny (model prog w) A (.compLoop (.ListComp elt [⟨target,iter,ifs,0⟩] scope pos) 0 it acc env) R s:=by
 refine codeAny_loop rfl I (λn s hI=>?_) n h
 show wpAny _ A ((compTurn (.ListComp elt [⟨target,iter,ifs,0⟩] scope pos) 0 it acc env).onRaise (λx=>do noteFrame x env;theTreesLotGoes x)) _ _ s
 refine wpAny_noted ?_;rw[compTurn_list];refine xr (wpAny_standAt (xr (y0R (turn n s hI) (λr s₁ h₁=>?_) λ_ _ h'=>h'.elim)));cases r with
 |none=>exact xw h₁
 |some v=>
  refine xr (y0R h₁ (λ_ w9 h₁'=>?_) λ_ _ h'=>h'.elim);refine xr (y0R h₁' (λ_ s₂ h₂=>xr (y0R h₂ (λok s₃ h₃=>?_) λ_ _ h'=>h'.elim)) λ_ _ h'=>h'.elim);cases ok with
  |false=>exact xw ⟨rfl,h₃⟩
  |true=>exact xr (xr (y0R h₃ (λx s₄ h₄=>xr (y0R h₄ (λ_ s₅ h₅=>xw (xw ⟨rfl,h₅⟩)) λ_ _ h'=>h'.elim)) λ_ _ h'=>h'.elim))
def pV(cells:z_ (Str×td)):z_ (Str×y2g)->z_ (Str×td)->z_ (Str×td)
 |[],cs=>cs
 |(n,k)::r,cs=>pV cells r (if(k == y0d)=true then(n,(cells.lookup n).getD 0)::cs else cs)
theorem G1(h:∀y∈scope.names,y.2=y0d->∃c,env.cells.lookup y.1=a_ c):closureFor scope env=pure (pV env.cells scope.names []):=by
 have go:∀(names:z_ (Str×y2g))(cs:z_ (Str×td)),(∀y∈names,y.2=y0d->∃c,env.cells.lookup y.1=a_ c)->
   (forIn names cs λ(x:Str×y2g)(r:z_ (Str×td))=>match x with
    |(name,kind)=>if(kind == y0d)=true then(do let y <-cellOf env name;pure (ForInStep.yield ((name,y)::r))) else(pure (ForInStep.yield r):Sem _))=(pure (pV env.cells names cs):Sem _):=by
  intro names
  induction names with
  |nil=>intro cs _;rfl
  |cons y r ih=>
   intro cs hy
   let⟨n,k⟩:=y
   rw[List.forIn_cons]
   have xk:=λcs'=>ih cs' λy hm=>hy y (yd _ hm)
   by_cases hk:(k == y0d)=true
   ·let⟨c,hc⟩:=hy (n,k) ye (k_ hk)
    have e1:cellOf env n=pure c:=by unfold cellOf;rw[show env.cells.lookup n=a_ c from hc]
    have e2:pV env.cells ((n,k)::r) cs=pV env.cells r ((n,c)::cs):=by
     show pV env.cells r (if(k == y0d)=true then _ else _)=_
     rw[if_pos hk,show env.cells.lookup n=a_ c from hc];rfl
    rw[e2,<-xk ((n,c)::cs)]
    simp only[hk,if_true,e1,pure_bind]
   ·have e2:pV env.cells ((n,k)::r) cs=pV env.cells r cs:=by
     show pV env.cells r (if(k == y0d)=true then _ else _)=_
     rw[if_neg hk]
    rw[e2,<-xk cs]
    simp only[hk,if_false,pure_bind]
    try rfl
 have:=go scope.names [] h
 unfold closureFor
 simpa using this
theorem CD{cells:z_ (Str×td)}{x:Str}{c:td}:∀(names:z_ (Str×y2g))(cs:z_ (Str×td)),(pV cells names cs).lookup x=a_ c->cs.lookup x=a_ c\/(∃y∈names,y.1=x/\y.2=y0d/\c=(cells.lookup x).getD 0)
 |[],_,h=>.inl h
 |(n,k)::r,cs,h=>by
  rcases CD r _ h with h1|⟨y,hy,e⟩
  ·by_cases hk:(k == y0d)=true
   ·rw[if_pos hk]at h1;by_cases hx:x=n
    ·subst hx;simp only[y8,beq_self_eq_true]at h1;show .inr ⟨(x,k),ye,rfl,k_ hk,(yx h1).symm⟩
    ·have:(x == n)=false:=by simpa using hx
     simp only[y8,this]at h1;show .inl h1
   ·rw[if_neg hk]at h1;show .inl h1
  ·show .inr ⟨y,yd _ hy,e⟩
theorem Eb{cells:z_ (Str×td)}{x:Str}:∀(names:z_ (Str×y2g))(cs:z_ (Str×td)),((∃c,cs.lookup x=a_ c)\/∃y∈names,y.1=x/\y.2=y0d)->∃c,(pV cells names cs).lookup x=a_ c
 |[],_,h=>by
  rcases h with h|⟨y,hy,_⟩
  ·show h
  ·cases hy
 |(n,k)::r,cs,h=>by
  refine Eb r _ ?_;rcases h with⟨c,h⟩|⟨y,hy,e1,e2⟩
  ·left;by_cases hk:(k == y0d)=true
   ·rw[if_pos hk];by_cases hx:x=n
    ·subst hx;simp[y8]
    ·have:(x == n)=false:=by simpa using hx
     show⟨c,by simp only[y8,this];show h⟩
   ·rw[if_neg hk];show⟨c,h⟩
  ·rcases yr.mp hy with rfl|hy
   ·left;let hk:(k == y0d)=true:=by simpa using e2
    rw[if_pos hk];let hx:n=x:=e1;subst hx;simp[y8]
   ·show .inr ⟨y,hy,e1,e2⟩
def zC(os:Scope)(oN:z_ Str)(sc:Scope)(N:z_ Str)(js:z_ (A_ Nat)):Bool:=
 (match sc.kind with|.function=>true|_=>false)&&sc.names.all (λy=>match y.2 with
  |.cell=>(match sc.names.lookup y.1 with|some .cell=>true|_=>false)
  |_=>true) &&
 sc.names.all (λy=>match y.2 with
  |.local=>(match sc.names.lookup y.1 with|some .local=>true|_=>false)
  |.free=>(match sc.names.lookup y.1,os.names.lookup y.1 with|some .free,a_ .cell=>true|some .free,a_ .free=>true|_,_=>false)
  |_=>true) &&
 js.length == N.length&&(js.zip N).all (λp=>match p.1 with
  |none=>true
  |some j=>(match oN[j]? with|some x=>decide (x=p.2)|none=>false)&&(match sc.names.lookup p.2 with|some .free=>true|_=>false))
structure WH(os:Scope)(oN:z_ Str)(sc:Scope)(N:z_ Str)(js:z_ (A_ Nat)):Prop where
 kind:sc.kind=.function
 own:∀y∈sc.names,y.2=.cell->sc.names.lookup y.1=some .cell
 nm:∀y∈sc.names,y.2=.local->sc.names.lookup y.1=some .local
 fr:∀y∈sc.names,y.2=.free->os.names.lookup y.1=some .cell\/os.names.lookup y.1=some .free
 len:js.length=N.length
 cap:∀(i j:Nat),js[i]?=some (some j)->∃x,N[i]?=some x/\oN[j]?=some x/\sc.names.lookup x=some .free
variable{js:z_ (A_ Nat)}{oN:z_ Str}{os sc:Scope}
theorem Oj(h:zC os oN sc N js=true):WH os oN sc N js:=by
 unfold zC at h;simp only[zg]at h;let⟨⟨⟨⟨h1,h2⟩,h3⟩,h4⟩,h5⟩:=h;refine⟨?_,λy hy e=>?_,λy hy e=>?_,λy hy e=>?_,k_ h4,λi j e=>?_⟩
 ·cases hk:sc.kind <;> rw[hk]at h1 <;> first|rfl|exact absurd h1 yl
 ·have:=y1.mp h2 y hy;rw[e]at this;dsimp only at this;cases hl:sc.names.lookup y.1 with
  |none=>rw[hl]at this;show absurd this yl
  |some k=>cases k <;> rw[hl]at this <;> first|rfl|exact absurd this yl
 ·have:=y1.mp h3 y hy;rw[e]at this;dsimp only at this;cases hl:sc.names.lookup y.1 with
  |none=>rw[hl]at this;show absurd this yl
  |some k=>cases k <;> rw[hl]at this <;> first|rfl|exact absurd this yl
 ·have:=y1.mp h3 y hy;rw[e]at this;dsimp only at this;cases hl:sc.names.lookup y.1 with
  |none=>rw[hl]at this;show absurd this yl
  |some k=>
   rw[hl]at this;cases ho:os.names.lookup y.1 with
   |none=>rw[ho]at this;cases k <;> exact absurd this yl
   |some k'=>rw[ho]at this;cases k <;> cases k' <;> first|exact .inl rfl|exact .inr rfl|exact absurd this yl
 ·let hlen:js.length=N.length:=by simpa using h4
  let⟨hi,ej⟩:=xt.mp e;let hN:i<N.length:=⋯;let hz:(js.zip N)[i]?=a_ (a_ j,N[i]):=by rw[y1d];show⟨e,by simp[hN]⟩
  have:=y1.mp h5 _ (zi hz);simp only[zg]at this;let⟨t1,t2⟩:=this;refine⟨N[i],by simp[hN],?_,?_⟩
  ·cases ho:oN[j]? with
   |none=>rw[ho]at t1;show absurd t1 yl
   |some x=>rw[ho]at t1;rw[of_decide_eq_true t1]
  ·cases hl:sc.names.lookup N[i] with
   |none=>rw[hl]at t2;show absurd t2 yl
   |some k=>rw[hl]at t2;cases k <;> first|rfl|exact absurd t2 yl
theorem jA{κ:Type}{x:Str}{k:κ}:∀{l:z_ (Str×κ)},l.lookup x=a_ k->(x,k)∈l
 |[],h=>by simp at h
 |(n,v)::r,h=>by
  by_cases hx:x=n
  ·subst hx;simp only[y8,beq_self_eq_true]at h;cases h
   show ye
  ·have:(x == n)=false:=by simpa using hx
   simp only[y8,this]at h;show yd _ (jA h)
theorem vI{sc:Scope}{env:Env}:∀{names:z_ (Str×y2g)}{x:Str}{k:y2g},(names.map λ(n,k)=>if(k == y0d&&env.scope.kind == .function&&env.kindOf n == a_ .cell) then(n,y2F) else(n,k)).lookup x=a_ k->
  names.lookup x=a_ k\/(k=.cell/\names.lookup x=a_ .free)
 |[],_,_,h=>by simp at h
 |(n,q)::r,x,k,h=>by
  let ih:=@vI sc env r x k;by_cases hc:(q == y0d&&env.scope.kind == .function&&env.kindOf n == a_ .cell)=true
  ·simp only[yq]at h;rw[if_pos hc]at h;let hq:q=.free:=by simp only[zg]at hc;simpa using hc.1.1
   by_cases hx:x=n
   ·subst hx;simp only[y8,beq_self_eq_true]at h⊢;show .inr ⟨(yx h).symm,by rw[hq]⟩
   ·let e:(x == n)=false:=by simpa using hx
    simp only[y8,e]at h⊢;show ih h
  ·simp only[yq]at h;rw[if_neg hc]at h;by_cases hx:x=n
   ·subst hx;simp only[y8,beq_self_eq_true]at h⊢;show .inl h
   ·let e:(x == n)=false:=by simpa using hx
    simp only[y8,e]at h⊢;show ih h
theorem Ak{env:Env}:∀{names:z_ (Str×y2g)}{x:Str},names.lookup x=a_ .free->
  (names.map λ(n,k)=>if(k == y0d&&env.scope.kind == .function&&env.kindOf n == a_ .cell) then(n,y2F) else(n,k)).lookup x=a_ .free\/
  (names.map λ(n,k)=>if(k == y0d&&env.scope.kind == .function&&env.kindOf n == a_ .cell) then(n,y2F) else(n,k)).lookup x=a_ .cell
 |[],_,h=>by simp at h
 |(n,q)::r,x,h=>by
  let ih:=@Ak env r x;by_cases hc:(q == y0d&&env.scope.kind == .function&&env.kindOf n == a_ .cell)=true
  ·simp only[yq];rw[if_pos hc];by_cases hx:x=n
   ·subst hx;simp only[y8,beq_self_eq_true]
    first|exact .inr rfl|exact .inr trivial
   ·let e:(x == n)=false:=by simpa using hx
    simp only[y8,e]at h⊢;show ih h
  ·simp only[yq];rw[if_neg hc];by_cases hx:x=n
   ·subst hx;simp only[y8,beq_self_eq_true]at h⊢;show .inl h
   ·let e:(x == n)=false:=by simpa using hx
    simp only[y8,e]at h⊢;show ih h
theorem dA:∀(names:z_ (Str×y2g))(n:Nat)(acc:z_ (Str×td)),y0s n names acc=y0s n names []++acc
 |[],_,_=>rfl
 |(x,k)::r,n,acc=>by
  unfold y0s;split
  ·rw[dA r _ ((x,n)::acc),dA r _ [(x,n)],y2r];rfl
  ·show dA r n acc
theorem tH{x:Str}{c:td}:∀{names:z_ (Str×y2g)}{n:Nat},(x,c)∈y0s n names []->(x,y2F)∈names
 |[],_,h=>by cases h
 |(y,k)::r,n,h=>by
  unfold y0s at h;split at h
  ·rename_i hk;rw[dA,zf]at h;rcases h with h|h
   ·show yd _ (tH h)
   ·let e:=y0.mp h;let ex:x=y:=congrArg y1s e;let ek:k=.cell:=by simpa using hk
    rw[ex,ek];show ye
  ·show yd _ (tH h)
theorem CF{α:Type}{x:Str}{c:α}:∀{l:z_ (Str×α)},(x,c)∈l->∃d,l.lookup x=a_ d
 |(y,d)::r,h=>by
  by_cases e:x=y
  ·subst e;show⟨d,by simp[y8]⟩
  ·let z:(x == y)=false:=by simpa using e
   rcases yr.mp h with q|q
   ·show absurd (congrArg y1s q) e
   ·let⟨d',hd⟩:=CF q;show⟨d',by simp only[y8,z];show hd⟩
theorem nR{x:Str}:∀{names:z_ (Str×y2g)}{n:Nat},(x,y2F)∈names->∃c,(y0s n names []).lookup x=a_ c
 |(y,k)::r,n,h=>by
  let go:∃c,(x,c)∈y0s n ((y,k)::r) []:=by
   rcases yr.mp h with q|q
   ·let ex:x=y:=congrArg y1s q;let ek:k=.cell:=(congrArg Prod.snd q).symm;refine⟨n,?_⟩;unfold y0s;rw[if_pos (by rw[ek];rfl),dA,ex];show yf _ ye
   ·unfold y0s;split
    ·let⟨c,hc⟩:=nR (n:=n+1) q;rw[dA];show⟨c,z8 _ (mem_of_lookup hc)⟩
    ·let⟨c,hc⟩:=nR (n:=n) q;show⟨c,mem_of_lookup hc⟩
  let⟨c,hc⟩:=go;show CF hc
theorem Al{α:Type}{x:Str}:∀{l r:z_ (Str×α)},(l++r).lookup x=(l.lookup x).or (r.lookup x)
 |[],_=>by simp
 |(y,d)::l,r=>by
  let ih:=Al (x:=x) (l:=l) (r:=r);cases e:x == y with
  |true=>simp[y8,e]
  |false=>simp only[List.cons_append,y8,e];show ih
variable{M:Model}{builtins globals:td}{closure:z_ (Str×td)}{code:r_}{func:A_ td}
theorem Bo{outer:Env}{Q:jn Env}(hQ:Q (newEnv scope (e_ s) globals (y0s (s.heap.objs.size+1) scope.names closure) qual func code (a_ outer) builtins) {s with heap:=pushCells (s.heap.push {cls:=.type "dict",data:=.dict #[]}) scope.names}):
  wpAny M A (newFunctionEnv scope globals closure [] qual func code (a_ outer) builtins) Q E s:=by
 simp only[newFunctionEnv,y2E,if_true];refine xr (wpAny_alloc ?_);refine xr (wpAny_layCells _ (λname kind cells=>by cases hkc:kind == y2F <;> simp[hkc]) _ _ _ _ ?_);rw[show({s with heap:=s.heap.push {cls:=.type "dict",data:=.dict #[]} }:s_).heap.objs.size=(e_ s)+1 from y1x ..]
 rw[List.forIn_nil];show xr (xw (xw hQ))
def Cx.comp(X:Cx)(sc:Scope)(N:z_ Str)(C:td)(fp:z_ td)(s₀:s_)(H₀:Hp):Cx:=
 { X with N:=N,s₀:=s₀,H₀:=H₀,env:=compEnvC sc (y0s (C+1) sc.names (Y_ [])) C X.env,outer:=X.stack,ex:=fp,fn:=λx=>(match q0A 0 with|some .cell=>true|_=>false),pn:=[],xe:=λ_ _=>False}
def LH:St->Nat->A_ V
 |[],_=>b_
 |x::_,0=>x
 |_::r,n+1=>LH r n
theorem Ec:∀{σ:St}{i:Nat}{v:V},LH σ i=a_ v->σ[i]?=a_ (a_ v)
 |[],_,_,h=>by cases h
 |x::_,0,v,h=>by let h':x=a_ v:=h;simp[h']
 |_::r,n+1,v,h=>by rw[y0X];show Ec (σ:=r) (i:=n) h
def tI(js:z_ (A_ Nat))(σ:St):St:=js.map λo=>match o with
 |none=>b_
 |some j=>LH σ j
variable{i:Nat}
theorem TK(h:(tI js σ)[i]?=a_ (a_ v)):∃j,js[i]?=a_ (a_ j)/\σ[j]?=a_ (a_ v):=by
 unfold tI at h;rw[yy]at h;cases e:js[i]? with
 |none=>rw[e]at h;cases h
 |some o=>
  rw[e]at h;cases o with
  |none=>cases h
  |some j=>exact⟨j,rfl,Ec (yx h)⟩
def PTs(X:Cx)(ifs:z_ x_)(t:TT):Prop:=
 ∀(P1:gV 0)(s:s_)(σ:St)(H:Hp)(Q:Bool->Hp->Prop),Q_ s->t σ H Q->wpAny (g_ X) X.A (Nb ifs X.env) (TP X P1 σ Q) X.xe s
def YD:TT:=λ_ H Q=>Q true H
theorem TL:PTs X [] YD:=λ_ _ _ H _ I h=>wpAny_tests_nil ⟨H,I,h⟩
theorem TM{c:x_}{t:TT}(h:PT X c t):PTs X [c] t:=λP1 s σ H Q I q=>wpAny_tests_one (q0t Q I q)
def VI(js:z_ (A_ Nat))(g:TG)(tt:TT)(te:TE)(σ:St)(acc:td)(x:V)(H:Hp)(N:Hp->Prop):Prop:=g x (tI js σ) H λσ2 H4=>tt σ2 H4 λb H5=>if b=true then te σ2 H5 λv H6=>∃ys,H6 acc=a_ (.lst ys)/\ys.length<yo/\N (upd H6 acc (.lst (ys++[v]))) else N H5
def Nc(js:z_ (A_ Nat))(wi:TI)(g:TG)(tt:TT)(te:TE):TE:=λσ H Q=>wi σ H λJ H1=>∀acc,H1 acc=b_->
 ∃W:Nat->Nat->Hp->Prop,(∃m,W 0 m (upd H1 acc (.lst [])))/\∀i m H2,W i m H2->
  (J.stop i H2/\Q (.ref acc) H2)\/(J.go i H2/\∃N:Hp->Prop,(∀H',N H'->∃m',m'<m/\W (i+1) m' H')/\∀x H3,J.yld i H2 x H3->VI js g tt te σ acc x H3 N)
structure Off(X:Cx)(P1:gV 0)(H:Hp)(C:td)(s:s_):Prop where
 ns:∃m,s.heap.Ns C m
 none:H C=none
 loc:C≠X.env.locals
 new:X.s₀.heap.objs.size<=C
 cells:∀x c,X.env.cells.lookup x=some c->c≠C
 P1:∀p∈X.pn++P1,p.1≠C
theorem Off.go{C:td}(o:Off X P1 H C s)(I:Q_ s)(hs:y1w C s.heap h'):Q_ {s with heap:=h'}:=I.turned (t':=s.toks) (λb ob hb e=>(hs.2 b hb).trans e) o.none o.loc (.inr o.new) o.cells o.P1
variable{Q0:f_ 0}{te:TE}{tg:x_}{tt:TT}{use:A_ (r_->Sem Unit)}{wi:TI}
theorem GK{elt:x_}{g:TG}(hc:X.calm=true)(fw:X.env.scope=os)(i8:X.N=oN)(ok:zC os oN sc N js=true)(hi:PI X tg iter wi)(hg:∀C fp s₀ H₀,PG (q0S 0) tg g)(ht:∀C fp s₀ H₀,PTs (q0S 0) ifs tt)(he:∀C fp s₀ H₀,PE (q0S 0) elt te){Q:VK}(I:Q_ s)(h:Nc js wi g tt te σ H Q)(um:∀acc C s6 H6,j_ H6 s6->Off X P1 H6 C s6->Q (.ref acc) H6->compPost (g_ X) X.A X.xe use Q0 (.ref acc) C (.ok .next) s6)(hs:∀x,y1y iter X.env x=pure x:=by intro _;rfl):
  wpAny (g_ X) X.A (comprehension (.ListComp elt [⟨tg,iter,ifs,0⟩] sc pos) sc X.env (firstIterPos [⟨tg,iter,ifs,0⟩] pos) (newList []) false (eval iter X.env) use) Q0 X.xe s:=by
 let S:=Oj ok;subst fw i8;let n9:∀y∈sc.names,y.2=y0d->∃c,X.env.cells.lookup y.1=a_ c:=λy hy e=>I.ok.has y.1 (S.fr y hy e);let jt:∀x c,(Y_ []).lookup x=a_ c->S_ 0=a_ c:=λx c e=>by
  rcases CD _ _ e with z|⟨y,hy,e1,e2,e3⟩
  ·cases z
  ·let⟨d,hd⟩:=n9 y hy e2;rw[e1]at hd;rw[hd]at e3;rw[hd,e3];rfl
 refine wpAny_comprehension_free (use:=use) rfl hs (G1 n9) S.kind S.nm (thn (hi P1 s σ H _ I h) λv s1 h1=>thn h1 λsk s2 h2=>?_);let⟨it,fp,tn,J,H2,e,I2,T,qg,f2,q⟩:=h2;subst e;let⟨W,⟨m0,w0⟩,turn⟩:=q (e_ s2) I2.fresh;refine zd (Bo ?_);let I3:j_ (upd H2 (e_ s2) (.lst [])) {s2 with heap:=s2.heap.push {cls:=.type "list",data:=.seq ([]:z_ r_).toArray},toks:=s2.toks}:=I2.lnew (its:=[]) (ys:=[]) .nil (y9 _);generalize hH3:upd H2 (e_ s2) (HO.lst [])=H3 at w0 I3;generalize hs3:({s2 with heap:=s2.heap.push {cls:=.type "list",data:=.seq ([]:z_ r_).toArray},toks:=s2.toks}:s_)=s3 at I3;let es3:({s2 with heap:=s2.heap.push {cls:=.type "list",dict:=b_,data:=.seq ([]:z_ r_).toArray} }:s_)=s3:=hs3;let vk:s2.heap.push {cls:=.type "list",dict:=b_,data:=.seq ([]:z_ r_).toArray}=s3.heap:=by rw[<-es3]
 (try rw[vk])
 let hC:∀b o,s3.heap.get? b=a_ o->b≠(e_ s3):=λb o e=>yt (yj e);let old:∀b o,s3.heap.get? b=a_ o->(pushCells (s3.heap.push {cls:=.type "dict",data:=.dict #[]}) sc.names).get? b=a_ o:=λb o e=>pushCells_keeps _ _ b o (yc _ e);let m4:(pushCells (s3.heap.push {cls:=.type "dict",data:=.dict #[]}) sc.names).Ns (e_ s3) (λ_=>b_):=(Heap.Ns.new s3.heap (.type "dict")).keeps (pushCells_keeps _ _);let nq:=cellsFrom_ok sc.names (s3.heap.push {cls:=.type "dict",data:=.dict #[]}) (s3.heap.objs.size+1) [] ⟨λ_ _ hm=>(nomatch hm),y2H⟩ (by rw[y1x];show yg _);rw[y1x]at nq;generalize pushCells (s3.heap.push {cls:=.type "dict",data:=.dict #[]}) sc.names=h₁ at old m4 nq⊢;let m8:∀{x c},(y0s (s3.heap.objs.size+1) sc.names (Y_ [])).lookup x=a_ c->((x,c)∈y0s (s3.heap.objs.size+1) sc.names []/\h₁.IsCell c b_/\(e_ s3)+1<=c)\/(S_ 0=a_ c/\c<(e_ s3)):=λ{x c} e=>by
  rw[dA,Al]at e;cases eo:(y0s (s3.heap.objs.size+1) sc.names []).lookup x with
  |some d=>
   rw[eo]at e;cases e
   have:=mem_of_lookup eo;show .inl ⟨this,nq.empty x c this⟩
  |none=>rw[eo]at e;let e:=jt x c e;let⟨v,z⟩:=I3.cell x c e;show .inr ⟨e,z.lt⟩
 let vq:∀{x c},q0A 0=a_ .free->(Y_ []).lookup x=a_ c->(y0s (s3.heap.objs.size+1) sc.names (Y_ [])).lookup x=a_ c:=λ{x c} hf e=>by
  rw[dA,Al];cases eo:(y0s (s3.heap.objs.size+1) sc.names []).lookup x with
  |some d=>have:=S.own _ (tH (mem_of_lookup eo)) rfl;rw[hf]at this;cases this
  |none=>exact e
 let ng:tn 0 s3.heap:=T.keep 0 _ _ qg λb hb o e=>by rw[<-vk];show yc _ e
 let uo:∀b∈fp,∃o,s3.heap.get? b=a_ o/\∀v,o.data≠.cell v:=T.obj 0 _ ng;let f3:∀b∈fp,Jw X P1 H3 b:=λb hb=>by let⟨o,ho,_⟩:=T.obj 0 _ qg b hb;refine⟨?_,(f2 b hb).2⟩;rw[<-hH3,bA (yt (yj ho))];show(f2 b hb).1
 -- the block's context
 let qp:(W_ (e_ s3) fp s3 H3).Ok:=by
  refine⟨I.ok.mod,S.kind,I.ok.glob,I.ok.blt,yg _,λx y c e1 e2=>?_,λx hx=>?_,λx c z e=>?_,I.ok.hd,I.ok.frames,.inl rfl,λb hb=>?_,I3.bs,
   ze I.ok.bsz I3.sz,λb o e hb=>?_,λb hb hf=>?_,I3.stack,I3.stkFree⟩
  ·rcases m8 e1 with⟨m1,_,g1⟩|⟨z1,g1⟩ <;> rcases m8 e2 with⟨m2,_,g2⟩|⟨z2,g2⟩
   ·show name_of_addr nq.apart m1 m2
   ·show absurd (y3 g2 (Nat.le_of_succ_le g1)) (y0P _)
   ·show absurd (y3 g1 (Nat.le_of_succ_le g2)) (y0P _)
   ·show I.ok.inj x y c z1 z2
  ·let fr:q0A 0=a_ .free->∃c,(y0s (s3.heap.objs.size+1) sc.names (Y_ [])).lookup x=a_ c:=λhf=>
    let ⟨c,hc⟩:=Eb (cells:=X.env.cells) (x:=x) sc.names [] (.inr ⟨_,jA hf,rfl,rfl⟩)
    ⟨c,vq hf hc⟩
   let fin:∀{k},(relabel sc X.env).names.lookup x=a_ k->(k=.cell\/k=.free)->∃c,(y0s (s3.heap.objs.size+1) sc.names (Y_ [])).lookup x=a_ c:=λ{k} e hk=>by
    rcases vI (sc:=sc) e with z|⟨_,z⟩
    ·rcases hk with rfl|rfl
     ·let⟨c,hc⟩:=nR (n:=(e_ s3)+1) (jA z);show⟨c,by rw[dA,Al,hc];rfl⟩
     ·show fr z
    ·show fr z
   rcases hx with hx|hx
   ·show fin hx (.inl rfl)
   ·show fin hx (.inr rfl)
  ·let z:q0A 0=a_ .cell:=by
    let z:(match q0A 0 with|some .cell=>true|_=>false)=true:=z
    split at z
    ·assumption
    ·cases z
   let e:(y0s (s3.heap.objs.size+1) sc.names (Y_ [])).lookup x=a_ c:=e;let⟨d,hd⟩:=nR (n:=(e_ s3)+1) (jA z);rw[dA,Al,hd]at e;cases e
   show Nat.le_of_succ_le (nq.empty x c (mem_of_lookup hd)).2
  ·let⟨o,ho,_⟩:=uo b hb;refine⟨hC b o ho,λx c e=>?_⟩;rcases m8 e with⟨_,_,g1⟩|⟨z1,_⟩
   ·show y0x (y3 (yj ho) (Nat.le_of_succ_le g1))
   ·show(f3 b hb).2.2.2.2.1 x c z1
  ·rcases(f3 b hb).2.2.2.1 with z|z
   ·show I.ok.noex b o e z
   ·show absurd (y3 (yj e) (ze I.ok.bsz z)) (y0P _)
  ·rcases yr.mp (I3.stkSub b hf) with z|z
   ·show(f3 b hb).2.1 z
   ·show(f3 b hb).2.2.1 z
 -- what the block takes from around it
 let pz:∀(i:Nat)(x:Str)(v:V),N[i]?=a_ x->(tI js σ)[i]?=a_ (a_ v)->∃u c o,RelV v u/\((compEnvC sc (y0s (s3.heap.objs.size+1) sc.names (Y_ [])) (e_ s3) X.env).kindOf x=a_ .cell\/(compEnvC sc (y0s (s3.heap.objs.size+1) sc.names (Y_ [])) (e_ s3) X.env).kindOf x=a_ .free)/\
   (y0s (s3.heap.objs.size+1) sc.names (Y_ [])).lookup x=a_ c/\s3.heap.get? c=a_ o/\o.data=.cell (a_ u)/\H3 c=b_/\c∉fp:=by
  intro i x v hN hv;let⟨j,hj,hσ⟩:=TK hv;let⟨x',f6,ho,hf⟩:=S.cap i j hj;rw[hN]at f6;cases f6;let⟨m,hn,hl⟩:=I3.loc;let ui:Vis X.env.scope x:=by
   rcases S.fr _ (jA hf) rfl with z|z
   ·show .inr (.inl z)
   ·show .inr (.inr z)
  let⟨u,r,l⟩:=hl j x v ho hσ ui;let⟨c,pf⟩:=Eb (cells:=X.env.cells) (x:=x) sc.names [] (.inr ⟨_,jA hf,rfl,rfl⟩);let sj:=jt x c pf;let d8:s3.heap.IsCell c (a_ u):=by
   rcases l with⟨k,_⟩|⟨_,c',e,z⟩
   ·exfalso;rcases S.fr _ (jA hf) rfl with z|z
    ·let k':q0c 0=a_ .local:=k;rw[z]at k';cases k'
    ·let k':q0c 0=a_ .local:=k;rw[z]at k';cases k'
   ·rw[sj]at e;cases e;show z
  let⟨o,dq,hd⟩:=d8;refine⟨u,c,o,r,?_,vq hf pf,dq,hd,I3.freeC x c sj,λhb=>(f3 c hb).2.2.2.2.1 x c sj rfl⟩;show(Ak (env:=X.env) hf).symm
 -- at any state of the block,its names as at its start
 let om:∀{c7:gV 0}{σ8:St}{H8:Hp}{s8:s_},Inv (W_ (e_ s3) fp s3 H3) c7 σ8 H8 s8->Inv (W_ (e_ s3) fp s3 H3) [] (tI js σ) H8 s8:=λ{c7 σ8 H8 s8} I8=>by
  refine⟨I8.ok,I8.os,I8.bare,I8.base,?_,I8.cell,I8.free,I8.freeC,λp hp=>by simp[Cx.comp]at hp,I8.hok,?_⟩
  ·let⟨m,hn,_⟩:=I8.loc;refine⟨m,hn,λi x v hN hv _=>?_⟩;let⟨u,c,o,r,k,hl,ho,hd,hn3,hnf⟩:=pz i x v hN hv;refine⟨u,r,.inr ⟨k,c,hl,?_⟩⟩;let⟨sl,e⟩:=I8.base.any ho hn3 hnf;show⟨_,e,hd⟩
  ·change(tI js σ).length=N.length
   unfold tI;rw[yh,S.len]
 let I4:Inv (W_ (e_ s3) fp s3 H3) [] (tI js σ) H3 {s3 with heap:=h₁}:=by
  refine⟨qp,rfl,I3.bare,Un.kept old,⟨_,m4,λi x v hN hv _=>?_⟩,λx c e=>?_,I3.fresh,λx c e=>?_,λp hp=>by simp[Cx.comp]at hp,I3.hok.kept old,?_⟩
  ·let⟨u,c,o,r,k,hl,ho,hd,_,_⟩:=pz i x v hN hv;show⟨u,r,.inr ⟨k,c,hl,o,old c o ho,hd⟩⟩
  ·rcases m8 e with⟨_,g1,_⟩|⟨z1,_⟩
   ·show⟨_,g1⟩
   ·let⟨v,o,ho,hd⟩:=I3.cell x c z1;show⟨v,o,old c o ho,hd⟩
  ·rcases m8 e with⟨_,_,g1⟩|⟨z1,_⟩
   ·show I3.hok.fresh ⋯
   ·show I3.freeC x c z1
  ·change(tI js σ).length=N.length
   unfold tI;rw[yh,S.len]
 let wt:tn 0 h₁:=T.keep 0 _ _ ng λb hb o e=>old b o e;let j9:∀{H':Hp},(∀b∈fp,H' b=b_)->∀b∈fp,Jw (W_ (e_ s3) fp s3 H3) [] H' b:=λ{H'} hn b hb=>⟨hn b hb,(qp.exf b hb).1,qp.exfs b hb,.inl hb,(qp.exf b hb).2,λp hp=>by simp[Cx.comp]at hp⟩;let fin:∀(s6:s_)(H6:Hp),Inv (W_ (e_ s3) fp s3 H3) [] (tI js σ) H6 s6->Q (.ref (e_ s2)) H6->compPost (g_ X) X.A X.xe use Q0 (.ref (e_ s2)) (e_ s3) (.ok .next) s6:=λs6 H6 I6 q6=>by
  let I7:j_ H6 s6:=I3.call' (ch:=fp) I6.os I6.base I6.hok I6.bare λb hb=>⟨(f3 b hb).2.2.2.1,(f3 b hb).2.1,(f3 b hb).2.2.2.2.1,(f3 b hb).2.2.2.2.2⟩;refine um _ _ _ _ I7 ⟨let ⟨m,hn,_⟩:=I6.loc;⟨m,hn⟩,I6.free,y0x I3.lt,I3.sz,λx c e=>?_,λp hp=>?_⟩ q6
  ·let⟨v,z⟩:=I3.cell x c e;show yt z.lt
  ·show yt (yj (I3.pin p hp).1)
 let loop:codeAny (g_ X) X.A (.compLoop (.ListComp elt [⟨tg,iter,ifs,0⟩] sc pos) 0 (.ref it) (.ref (e_ s2)) (compEnvC sc (y0s (s3.heap.objs.size+1) sc.names (Y_ [])) (e_ s3) X.env))
   (compPost (g_ X) X.A X.xe use Q0 (.ref (e_ s2)) (e_ s3)) {s3 with heap:=h₁}:=by
  refine HV (λn s'=>∃i H',Inv (W_ (e_ s3) fp s3 H3) [] (tI js σ) H' s'/\tn i s'.heap/\(∀b∈fp,H' b=b_)/\W i n H') ?_ m0 ⟨0,H3,I4,wt,λb hb=>(f3 b hb).1,w0⟩;rintro n s5 ⟨i,H5,I5,mx,ik,w5⟩;rcases turn i n H5 w5 with⟨stop,qn⟩|⟨go,Nn,hN,step⟩
  ·refine thn (T.done (W_ (e_ s3) fp s3 H3) rfl rfl rfl hc i [] s5 (tI js σ) H5 (λ_ _=>False) I5 (j9 ik) mx stop) λr s6 ⟨hr,I6⟩=>?_;subst hr;show fin s6 H5 I6 qn
  ·refine thn (T.item (W_ (e_ s3) fp s3 H3) rfl rfl rfl hc i [] s5 (tI js σ) H5 (λ_ _=>False) I5 (j9 ik) mx go) λr s6 ⟨u,hr,h6⟩=>?_;subst hr;refine thn h6 λ_ s7 hz=>?_;let⟨x,H7,I7,r7,y7,sd,fr7⟩:=hz;let I7':=I7.pinned (j9 fr7) (T.obj _ _ sd);refine thn (hg _ _ _ _ _ s7 _ H7 x u _ I7' r7 (step x H7 y7)) λ_ s8 ⟨σ8,H8,I8,q8⟩=>?_;refine thn (ht _ _ _ _ _ s8 σ8 H8 _ I8 q8) λb s9 ⟨H9,I9,q9⟩=>?_;let again:∀{σ':St}{H':Hp}{s':s_},Inv (W_ (e_ s3) fp s3 H3) ([]++DZ fp s7.heap) σ' H' s'->Nn H'->∃m,m<n/\∃i H',Inv (W_ (e_ s3) fp s3 H3) [] (tI js σ) H' s'/\tn i s'.heap/\(∀b∈fp,H' b=b_)/\W i m H':=λ{σ' H' s'} I' n'=>by let⟨m',hm,w'⟩:=hN H' n';refine⟨m',hm,i+1,H',om I',T.keep _ _ _ sd λb hb o e=>(I'.pin (b,o) (yf _ (yf _ (tB hb e)))).1,λb hb=>?_,w'⟩;let⟨o,e,d⟩:=T.obj _ _ sd b hb;show(I'.pin (b,o) (yf _ (yf _ (tB hb e)))).2.1
   cases b with
   |false=>exact again I9 q9
   |true=>refine thn (he _ _ _ _ _ s9 σ8 H9 _ I9 q9) λu' s10 ⟨v,H10,I10,rv,ys,ah,hz,n10⟩=>?_;refine thn (GG (X:=W_ (e_ s3) fp s3 H3) _ s10 σ8 H10 (.ref (e_ s2)) [v] (.ref (e_ s2)) [u'] (λ_ H'=>Nn H') I10 rfl (.cons rv .nil) ⟨_,ys,v,rfl,rfl,ah,hz,n10⟩) λ_ s11 ⟨_,H11,I11,_,n11⟩=>?_;show again I11 n11
 show codeAny_compStart_list loop (T.self X.A 0 _ _ _ wt loop)
theorem TN{elt:x_}{g:TG}(hc:X.calm=true)(fw:X.env.scope=os)(i8:X.N=oN)(ok:zC os oN sc N js=true)(hi:PI X tg iter wi)(hg:∀C fp s₀ H₀,PG (q0S 0) tg g)(ht:∀C fp s₀ H₀,PTs (q0S 0) ifs tt)(he:∀C fp s₀ H₀,PE (q0S 0) elt te)(hs:∀x,y1y iter X.env x=pure x:=by intro _;rfl):PE X (.ListComp elt [⟨tg,iter,ifs,0⟩] sc pos) (Nc js wi g tt te):=by intro P1 s σ H Q I h;rw[eval_ListComp];refine GK (use:=b_) hc fw i8 ok hi hg ht he I h (λacc C s6 H6 I6 o q=>?_) hs;show⟨o.ns.choose,o.ns.choose_spec,λh' d0=>⟨.ref acc,H6,o.go I6 d0,rfl,q⟩⟩
variable{gq pos':Pos}
theorem LI{elt:x_}{g:TG}(hN:X.N.Nodup)(f6:X.N[i]?=a_ x)(jf:q0c 0=a_ .local)(hc:X.calm=true)(fw:X.env.scope=os)(i8:X.N=oN)(ok:zC os oN sc N js=true)(hi:PI X tg iter wi)(hg:∀C fp s₀ H₀,PG (q0S 0) tg g)(ht:∀C fp s₀ H₀,PTs (q0S 0) ifs tt)(he:∀C fp s₀ H₀,PE (q0S 0) elt te)(vd:swapsWith (.ListComp elt [⟨tg,iter,ifs,0⟩] sc pos) (a_ (.Name x pos')) gq.line X.env=pure true:=by rfl)(hs:∀x,y1y iter X.env x=pure x:=by intro _;rfl):PS X (.Assign [.Name x pos'] (.ListComp elt [⟨tg,iter,ifs,0⟩] sc pos) gq) (Wa (Nc js wi g tt te) (PN i)):=by
 intro P1 s σ H D I h
 rw[exec_Assign_Name_used _ _ _ _ vd]
 refine xr (wpAny_standAt (xr ?_))
 show wpAny _ X.A (do let _ <-comprehension (.ListComp elt [⟨tg,iter,ifs,0⟩] sc pos) sc X.env _ (newList []) false (eval iter X.env) (a_ (assign (.Name x pos') X.env))) _ _ s
 refine xr (thn (GK (use:=a_ (assign (.Name x pos') X.env)) (Q0:=λ_ s'=>SP X P1 D .next s') hc fw i8 ok hi hg ht he I h (λacc C s6 H6 I6 o q=>?_) hs) λ_ s' hq=>xw (xw hq))
 show wpAny _ X.A (assign (.Name x pos') X.env (.ref acc)) _ _ _
 refine wpAny_assign_Name (GA I6 hN f6 (.inl jf) (v:=.ref acc) rfl (λs7 I7 ⟨a,hs7,ha⟩=>?_) (.inr jf))
 have wu:C≠a:=by
  rcases ha with rfl|ha
  ·exact o.loc
  ·exact λe=>o.cells x a ha e.symm
 let⟨m,hn⟩:=o.ns
 have o7:Off X P1 H6 C s7:=⟨⟨m,hn.sameBut hs7 wu⟩,o.none,o.loc,o.new,o.cells,o.P1⟩
 exact⟨m,hn.sameBut hs7 wu,λh' d0=>⟨_,H6,o7.go I7 d0,q⟩⟩
def YE:V->A_ Int->A_ Int->Hp->VK->Prop:=λx lo hi H Q=>∃z,x=.str z/\z.length<=yo/\Q (.str (y0T z lo hi)) H
theorem part_of{v:r_}{o:A_ Int}(h:IsPart v o):∃p:A_ (Int×Tok),v=partValue p/\p.map (·.1)=o:=by
 cases h with
 |none=>exact⟨b_,rfl,rfl⟩
 |int i t=>exact⟨a_ (i,t),rfl,rfl⟩
theorem WI:SlR X YE:=by
 intro P1 s σ H x v vl vu lo hi sl Q I rx hs pl pu h;let⟨z,rfl,hz,q⟩:=h;let⟨t,rfl⟩:=rx;let⟨l,rfl,rfl⟩:=part_of pl;let⟨u,rfl,rfl⟩:=part_of pu;let⟨o,ho,hc,hd⟩:=hs;refine⟨"str",_,PySem.F.slot_str_getitem.lookup,typeIs_str s z t,?_⟩;refine wpAny_getItem_str_slice (l:=l) (u:=u) (st:=b_) ⟨o,ho,hc,hd⟩ rfl ?_;let e:sliceMade z t l u b_=if((1:Int) == 1&&(y2k (l.map (·.1)) (u.map (·.1)) 1 z.length).length == z.length)=true then Made.val (.str z t) else Made.str ⟨((y2k (l.map (·.1)) (u.map (·.1)) 1 z.length).filterMap (z.cps[·]?)).toArray⟩:=rfl;let hle:=Txt.slice_le z (l.map (·.1)) (u.map (·.1));unfold y0T at q hle;rw[e];by_cases aa:((1:Int) == 1&&(y2k (l.map (·.1)) (u.map (·.1)) 1 z.length).length == z.length)=true
 ·rw[if_pos aa]at q⊢;show⟨.str z,H,I,⟨t,rfl⟩,q⟩
 ·rw[if_neg aa]at q hle⊢;show⟨ze hle hz,.str _,H,q1v 0,⟨_,rfl⟩,q⟩
theorem Ed:∀{ss:z_ Str}{us:z_ r_},bH (ss.map V.str) us->StrsAre us ss
 |[],_,r=>by cases r;show .nil
 |x::ss,_,r=>by
  cases r with
  |cons h t=>let⟨tk,rfl⟩:=h;show .cons x tk (Ed t)
theorem GL:∀{us:z_ r_}{ss:z_ Str},StrsAre us ss->bH (ss.map V.str) us
 |_,_,.nil=>.nil
 |_,_,.cons x t h=>.cons ⟨t,rfl⟩ (GL h)
theorem Bp:gQ X (.builtin "sorted") (λxs H Q=>∃p ss,xs=[.ref p]/\SqL X.K H p (ss.map V.str)/\ss.length<64/\
  ∀l f7,H l=b_->f7.Perm ss->sortedS f7=true->Q (.ref l) (Z_ l (.lst (f7.map V.str)))):=by
 intro P1 s σ H xs us Q I r h;let⟨p,ss,rfl,hq,h64,q⟩:=h;let⟨u,rfl,ru⟩:=vals1 r;cases ru
 let⟨its,rv,pl,hz⟩:=I.list hq;let hlen:=rv.length;rw[yh]at hlen;refine sorted_strs pl.isList (Ed rv) ⋯ λout f7 a1 a2 a3=>?_;let⟨e,he⟩:=sortedAll_at s.heap its out;refine⟨.ref (s.heap.objs.size+1),_,I.laid (t':=s.toks) (o:=.lst (f7.map V.str)) (λb ob h=>sortedAll_old h) (y09 _) ?_,rfl,q _ f7 (I.hok.fresh (y09 _)) a2 a3⟩;refine⟨?_,out.toList,e,GL a1,by rw[he]⟩;rw[yh,a2.length_eq];show y0G (Nat.lt_trans h64 nofun)
variable{es:z_ x_}
theorem gT{k:Nat}{t:TGs}(K:yb)(hK:X.K=K)(hc:X.calm=true)(h:PGs X es t)(hn:(y1I es X.env).length=n:=by rfl)(bp:(y1I es X.env).findIdx? (·.1)=b_:=by rfl):PG X (.Tuple es k pos) (Ym K n t):=by subst hK;show W' hc h hn bp
variable{e:x_}{f:r_->r_->Sem r_}{g:Int->Int->Int}
section
variable{a b:x_}{t t' tb:TE}
theorem PE.imp(h:PE X e t)(i:∀σ H Q,t' σ H Q->t σ H Q):PE X e t':=λP1 s σ H Q I q=>q0t Q I (i σ H Q q)
theorem PT.imp{t t':TT}(h:PT X e t)(i:∀σ H Q,t' σ H Q->t σ H Q):PT X e t':=λP1 s σ H Q I q=>q0t Q I (i σ H Q q)
theorem OpR.imp{r r':R2}(h:q0C f r)(i:∀x y H Q,r' x y H Q->r x y H Q):q0C f r':=λP1 s σ H x y v u Q I rx ry q=>q0t x y v u Q I rx ry (i x y H Q q)
theorem gQ.imp{f:r_}{r r':z_ V->Hp->VK->Prop}(h:gQ X f r)(i:∀xs H Q,r' xs H Q->r xs H Q):gQ X f r':=λP1 s σ H xs us Q I rx q=>q0t xs us Q I rx (i xs H Q q)
def cV(i:Nat):TE:=λσ H Q=>match LH σ i with
 |some v=>Q v H
 |none=>False
theorem cv(i:Nat)(hN:X.N[i]?=a_ x:=by rfl)(hv:Vis X.env.scope x:=by first|exact Or.inl rfl|exact Or.inr (Or.inl rfl)|exact Or.inr (Or.inr rfl))(hd:(x == ("__debug__" : Str))=false:=by decide)(fj:(x == ("__classdict__" : Str))=false:=by decide):PE X (.Name x pos) (cV i):=by
 refine(PK hN hv hd fj).imp λσ H Q h=>?_;unfold cV at h;cases e:LH σ i with
 |none=>rw[e]at h;show h.elim
 |some v=>rw[e]at h;show⟨v,Ec e,h⟩
def YF(K:yb):R2:=λx y H Q=>match x,y with
 |.int i,.int j=>Q (.int (i+j)) H
 |.str i,.str j=>i.length+j.length<=yo/\Q (.str (i++j)) H
 |.ref _,.ref _=>Yz x y H Q\/VG K x y H Q
 |_,_=>False
theorem TQ(K:yb)(hK:X.K=K):q0C (y0Q .Add) (YF K):=by
 subst hK;refine(Wi.or (Lw.or (WA.or TC))).imp λx y H Q h=>?_;cases x <;> cases y <;> first
  |exact .inl ⟨_,_,rfl,rfl,h⟩
  |exact .inr (.inl ⟨_,_,rfl,rfl,h.1,h.2⟩)
  |exact .inr (.inr h)
  |exact h.elim
def GM(C:Int->Int->Prop)(f:Int->Int->Int):R2:=λx y H Q=>match x,y with
 |.int i,.int j=>C i j/\Q (.int (f i j)) H
 |_,_=>False
def Qh(f:Int->Int->Int):R2:=λx y H Q=>match x,y with
 |.int i,.int j=>Q (.int (f i j)) H
 |_,_=>False
theorem DC{C:Int->Int->Prop}(h:q0C f (rI C λi j=>.int (g i j))):q0C f (GM C g):=h.imp λx y H Q q=>by cases x <;> cases y <;> first|exact⟨_,_,rfl,rfl,q.1,q.2⟩|exact q.elim
theorem Qi(h:q0C f (rI0 λi j=>.int (g i j))):q0C f (Qh g):=h.imp λx y H Q q=>by cases x <;> cases y <;> first|exact⟨_,_,rfl,rfl,q⟩|exact q.elim
theorem TR:q0C (y0Q .Sub) (Qh λi j=>i-j):=Qi Wj
theorem TU:q0C (y0Q .Mult) (GM Jx λi j=>i*j):=DC Wl
theorem TV:q0C (y0Q .FloorDiv) (GM PU λi j=>i/j):=DC Tp
theorem TX:q0C (y0Q .Mod) (GM (λ_ j=>0<j) λi j=>i%j):=DC Wm
theorem TY:q0C (y0Q .Pow) (GM O5 λi j=>i ^ j.toNat):=DC Wn
def JE(f:Int->Int->Bool)(g:z_ Nat->z_ Nat->Bool):R2:=λx y H Q=>match x,y with
 |.int i,.int j=>Q (.bl (f i j)) H
 |.str i,.str j=>Q (.bl (g i.cps.toList j.cps.toList)) H
 |_,_=>False
theorem HW{p:Int->Int->Bool}{g:z_ Nat->z_ Nat->Bool}(h1:q0C f (rI0 λi j=>.bl (p i j)))(h2:q0C f (λx y H Q=>∃i j,x=.str i/\y=.str j/\Q (.bl (g i.cps.toList j.cps.toList)) H)):q0C f (JE p g):=(h1.or h2).imp λx y H Q q=>by cases x <;> cases y <;> first|exact .inl ⟨_,_,rfl,rfl,q⟩|exact .inr ⟨_,_,rfl,rfl,q⟩|exact q.elim
theorem WJ:q0C (zc .Lt) (JE (λi j=>decide (i<j)) λi j=>decide (i<j)):=HW Yp O6
theorem WK:q0C (zc .Gt) (JE (λi j=>decide (j<i)) λi j=>decide (j<i)):=HW Yr λP1 s σ H x y v u Q I rx ry h=>by let⟨i,j,rfl,rfl,q⟩:=h;let⟨t,rfl⟩:=rx;let⟨t',rfl⟩:=ry;show PySem.P.gt_str (E1 I q rfl)
theorem WL:q0C (zc .LtE) (JE (λi j=>decide (i<=j)) λi j=>!decide (j<i)):=HW Yq λP1 s σ H x y v u Q I rx ry h=>by let⟨i,j,rfl,rfl,q⟩:=h;let⟨t,rfl⟩:=rx;let⟨t',rfl⟩:=ry;show PySem.P.le_str (E1 I q rfl)
end
variable{ta:TE}{vs:z_ V}
section
variable{a b:x_}{t t' tb:TE}
theorem YG{x:V}{Q:Bool->Prop}(h:match x with|.bl c=>Q c|_=>False):∃c,x=.bl c/\Q c:=by cases x <;> first|exact⟨_,rfl,h⟩|exact h.elim
def cOr(ta tb:TE):TE:=λσ H Q=>ta σ H λx H1=>match x with
 |.bl c=>if c=true then Q (.bl true) H1 else tb σ H1 Q
 |_=>False
theorem WM{rest:z_ x_}(ha:PE X a ta)(hb:PE X (.BoolOp .Or (b::rest) pos) tb):PE X (.BoolOp .Or (a::b::rest) pos) (cOr ta tb):=by
 intro P1 s σ H Q I h;refine BoolOp_or (thn (q1w 0) λv s1 hz=>?_);let⟨x,H1,I1,r1,q1⟩:=hz;let⟨c,rfl,q1⟩:=YG q1;cases r1
 refine y1U ?_;cases c with
 |true=>exact⟨.bl true,H1,I1,rfl,q1⟩
 |false=>exact hb P1 s1 σ H1 Q I1 q1
theorem TZ(hu:X.A.units+1<cLine):IxR X (λx y H Q=>∃p v,x=.ref p/\zB H p y (a_ v)/\Q v H):=by
 intro value slice P1 s σ H x y v u Q I rx ry h hs;let⟨p,w,rfl,g,q⟩:=h;cases rx
 let hT:=JC I g;unfold subscriptTail;refine xr ?_;rw[getitemInPython_of_ne hT.not_modules];refine xr (y0M hT PySem.F.slot_dict_getitem.lookup ?_);let fin:wpAny (g_ X) X.A (subscripted slice false (.ref p) u) (λr s₃=>wpAny (g_ X) X.A (letTemporaryGo value (.ref p) r >>= λ_=>pure r) (q0g Q) X.xe s₃) X.xe s:=by rw[hs];show wpAny_operating (Og hu I g ry λw' s3 I3 cb=>xr (wpAny_letTemporaryGo (xw ⟨w,H,I3,cb,q⟩)))
 first
  |exact xw (xr fin)
  |exact xr (xw (xr fin))
  |exact xr fin
def YH(K:yb):R2:=λx y H Q=>match x with
 |.str z=>(match y with
  |.int i=>z.length<=yo/\∃c,atI z.cps.toList i=a_ c/\Q (.str ⟨#[c]⟩) H
  |_=>False)
 |.ref p=>(∃xs i v,y=.int i/\(q1y p xs\/q1c p xs)/\atI xs i=a_ v/\Q v H)\/∃v,zB H p y (a_ v)/\Q v H
 |_=>False
theorem IxR.imp{r r':R2}(h:IxR X r)(i:∀x y H Q,r' x y H Q->r x y H Q):IxR X r':=λa b P1 s σ H x y v u Q I rx ry q hs=>h a b P1 s σ H x y v u Q I rx ry (i x y H Q q) hs
theorem ixC(hu:X.A.units+1<cLine)(K:yb)(hK:X.K=K):IxR X (YH K):=by
 subst hK;refine(TF.or (Ww.or (Wx.or (TZ hu)))).imp λx y H Q h=>?_;cases x with
 |str z=>
  cases y with
  |int i=>let⟨h1,c,h2,h3⟩:=h;show .inr (.inr (.inl ⟨z,i,c,rfl,rfl,h1,h2,h3⟩))
  |_=>exact h.elim
 |ref p=>
  rcases h with⟨xs,i,v,rfl,hs|hs,ha,hq⟩|⟨v,g,hq⟩
  ·show .inl ⟨p,xs,i,v,rfl,rfl,hs,ha,hq⟩
  ·show .inr (.inl ⟨p,xs,i,v,rfl,rfl,hs,ha,hq⟩)
  ·show .inr (.inr (.inr ⟨p,v,rfl,g,hq⟩))
 |_=>exact h.elim
theorem WN(hu:X.A.units+1<cLine)(K:yb)(hK:X.K=K):q0C (zc .In) (λx y H Q=>rIn K false x y H Q\/∃a o,y=.ref a/\zB H a x o/\Q (.bl o.isSome) H):=by
 subst hK;refine Od.or λP1 s σ H x y v u Q I rx ry h=>?_;let⟨a,o,rfl,g,q⟩:=h;cases ry
 show zas hu I g rx λs' I'=>⟨.bl o.isSome,H,I',rfl,q⟩
theorem Ol(hu:X.A.units+1<cLine)(K:yb)(hK:X.K=K):q0C (zc .NotIn) (λx y H Q=>rIn K true x y H Q\/∃a o,y=.ref a/\zB H a x o/\Q (.bl (!o.isSome)) H):=by
 subst hK;refine HQ.or λP1 s σ H x y v u Q I rx ry h=>?_;let⟨a,o,rfl,g,q⟩:=h;cases ry
 show TJ hu I g rx λs' I'=>⟨.bl (!o.isSome),H,I',rfl,q⟩
def YI(K:yb):z_ V->Hp->VK->Prop:=λxs H Q=>match xs with
 |[.str y]=>y.length<=yo/\Q (.int y.length) H
 |[.ref p]=>(∃xs,(q1y p xs\/q1c p xs)/\Q (.int xs.length) H)\/∃kvs,H p=a_ (.dK kvs)/\Q (.int kvs.length) H
 |_=>False
theorem Om(K:yb)(hK:X.K=K):gQ X (.builtin "len") (YI K):=by
 subst hK;intro P1 s σ H xs us Q I r h
 match xs,h with
 |[.str y],h=>exact Q2 P1 s σ H _ us Q I r ⟨_,_,rfl,⟨h.1,rfl⟩,h.2⟩
 |[.ref p],h=>
  rcases h with⟨ys,hs,q⟩|⟨kvs,hs,q⟩
  ·show HS P1 s σ H _ us Q I r ⟨p,ys,rfl,hs,q⟩
  ·show Oi P1 s σ H _ us Q I r ⟨p,kvs,rfl,hs,q⟩
theorem LJ(K:yb)(hK:X.K=K):gQ X (.type "list") (λxs H Q=>∃p ys,xs=[.ref p]/\(q1y p ys\/q1c p ys)/\∀l,H l=b_->Q (.ref l) (Z_ l (.lst ys))):=by subst hK;show HU
theorem JF(K:yb)(hK:X.K=K):gQ X (.type "tuple") (λxs H Q=>∃p ys,xs=[.ref p]/\((q1y p ys/\∀l,H l=b_->Q (.ref l) (Z_ l (.tup ys)))\/(q1c p ys/\Q (.ref p) H))):=by subst hK;show G0
def YJ(ta:TA):TI:=λσ H R=>ta σ H λvs H1=>match vs with
 |[.int j]=>(-(2 ^ 62)<=j/\j<2 ^ 62)/\R (Itr 0 j.toNat) H1
 |_=>False
theorem U0{Q:Int->Prop}(h:match vs with|[.int i]=>Q i|_=>False):∃i,vs=[.int i]/\Q i:=by
 split at h
 · show⟨_,rfl,h⟩
 · show h.elim
theorem pr1{x:x_}{ta:TA}{p:Pos}(hg:Gl X "range")(hm:X.mg "range" = b_)(ha:PA X [x] ta)(hs:yz [x] X.env=[(false,eval x X.env)]:=by rfl):PI X tg (.Call (.Name "range" p) [x] [] pos) (YJ ta):=by intro P1 s σ H R I h;refine Call_ (vG I hg hm boot_range (y1C (thn (ha pos P1 s σ H _ I h) λus s1 hz=>?_) hs rfl));let⟨vs,H1,I1,r1,q1⟩:=hz;let⟨j,rfl,⟨h1,h2⟩,q⟩:=U0 q1;let⟨u,rfl,t,rfl⟩:=vals1 r1;show call_range_1 (PR I1 ⋯ ⋯ h1 h2 (k_ q))
def YK(t:TE):TO:=λσ H Q=>t σ H λx H1=>match x with
 |.int i=>Q (a_ i) H1
 |_=>False
theorem Qj{x:x_}(h:PE X x te):PO X (a_ x) (YK te):=by
 intro P1 s σ H Q I hw;rw[evalPart_some];refine thn (q0t _ I hw) λu s1 hz=>?_;let⟨x,H1,I1,r1,q1⟩:=hz;cases x with
 |int i=>let⟨t,rfl⟩:=r1;show⟨a_ i,H1,I1,.int i t,q1⟩
 |_=>exact q1.elim
end
structure Def(K:yb)(mg:n_ 0)(x:Str)(st:y_)(f:td)(fd:yw)(ps:z_ Str):Prop where
 fn:Fun K x x st f fd
 mg:mg x=c_ f
 bd:Binds K fd ps []
theorem YL{f:td}{k:Nat}{t:TA}{p:Pos}(D:Def X.K X.mg x st f fd ps)(G:L_ CX0 k f fd ps sp)(hr:lV k X.A)(ha:PA X (e::es) t)(hg:Gl X x:=by rfl)(bo:(x == ("__debug__" : Str))=false:=by decide)(he:yz (e::es) X.env=(false,q0d 0)::q0e 0:=by rfl)(ar:(q0m (q0e 0)).any (·.1)=false:=by rfl):
  PE X (.Call (.Name x p) (e::es) [] pos) (Q7 sp [] E0 t):=Tw G hr hg D.mg D.fn.kp D.bd .nil GI ha bo he ar
theorem WO{α:Type}{xs:z_ α}{i:Int}(h0:0<=i)(h1:i<xs.length):∃v,atI xs i=a_ v/\xs[i.toNat]?=a_ v:=by
 let h2:i.toNat<xs.length:=⋯;refine⟨xs[i.toNat],?_,by simp[h2]⟩;unfold atI ixN;rw[if_pos h0,if_pos h1];simp[h2]
theorem lY{α:Type}{xs:z_ α}{v:α}(h:xs[i]?=a_ v):atI xs (i:Int)=a_ v:=by let h1:=(xt.mp h).1;unfold atI ixN;rw[if_pos ⋯,if_pos ⋯];simpa using h
theorem E8.upd{o:HO}(h:H a=b_):E8 H (Z_ a o):=λb u e=>by rw[bA (iZ e h)];show e
theorem Def.mk'{h:v_}{f:td}{oc:r_}{kV:r_}(X:K.In h)(G:h.Ns z6 mg)(a:y05 K z6 x=a_ (c_ f))(l:K.lookup f=a_ ⟨oc,od,.func (y04 x x (lX st) (jP st) (aO st) .none kV doc pm an cdv ct),osl⟩)(c:y2w K cdv x=true)(k:Io K (.ref f)=true)(b:∀(kV doc pm:r_)(an:A_ td)(cdv ct:r_)(us:z_ r_),us.length=ps.length->bindArgs (y04 x x (lX st) (jP st) (aO st) .none kV doc pm an cdv ct) ⟨us,[]⟩=pure (ps.zip us)):
  q0T x st f (y04 x x (lX st) (jP st) (aO st) .none kV doc pm an cdv ct) ps:=
 ⟨E7 l c k,y0Y X G a,(E7 (st:=st) l c k).binds b⟩
open PySem.SeqAt
inductive D where
 |non|bl (b:Bool)|int (i:Int)|str (x:Str)|tup (xs:z_ D)
mutual
def D.depth:D->Nat
 |.tup xs=>D.depths xs+1
 |_=>0
def D.depths:z_ D->Nat
 |[]=>0
 |x::xs=>max (D.depth x) (D.depths xs)
end
theorem D.depths_le:∀{xs:z_ D}{i:Nat}{d:D},xs[i]?=a_ d->d.depth<=D.depths xs
 |[],_,_,h=>by simp at h
 |x::xs,0,d,h=>by
  have:x=d:=by simpa using h
  subst this
  change x.depth<=max x.depth (D.depths xs)
  omega
 |x::xs,i+1,d,h=>by
  have:=D.depths_le (xs:=xs) (i:=i) (d:=d) (k_ h)
  change d.depth<=max x.depth (D.depths xs)
  omega
mutual
def Rep(K:yb)(H:Hp):D->V->Prop
 |.non,v=>v=.non
 |.bl b,v=>v=.bl b
 |.int i,v=>v=.int i
 |.str x,v=>v=.str x
 |.tup ds,v=>∃a vs,v=.ref a/\q1c a vs/\iQ K H ds vs
def iQ(K:yb)(H:Hp):z_ D->z_ V->Prop
 |[],[]=>True
 |d::ds,v::vs=>Rep K H d v/\iQ K H ds vs
 |[],_::_=>False
 |_::_,[]=>False
end
mutual
def eqD:D->D->Bool
 |.non,.non=>true
 |.bl a,.bl b=>a == b
 |.bl a,.int b=>(if a then 1 else 0) == b
 |.int a,.bl b=>a == (if b then 1 else 0)
 |.int a,.int b=>a == b
 |.str a,.str b=>a == b
 |.tup xs,.tup ys=>pF xs ys
 |_,_=>false
def pF:z_ D->z_ D->Bool
 |[],[]=>true
 |x::xs,y::ys=>eqD x y&&pF xs ys
 |[],_::_=>false
 |_::_,[]=>false
end
mutual
def ltD:D->D->A_ Bool
 |.int a,.int b=>a_ (decide (a<b))
 |.str a,.str b=>a_ (decide (a.cps.toList<b.cps.toList))
 |.tup xs,.tup ys=>zD xs ys
 |_,_=>b_
def zD:z_ D->z_ D->A_ Bool
 |[],[]=>a_ false
 |[],_::_=>a_ true
 |_::_,[]=>a_ false
 |x::xs,y::ys=>if eqD x y=true then zD xs ys else ltD x y
end
mutual
theorem Ee:∀d:D,eqD d d=true
 |.non=>rfl
 |.bl b=>by simp[eqD]
 |.int i=>by simp[eqD]
 |.str x=>by simp[eqD]
 |.tup xs=>by simp only[eqD];show GN xs
theorem GN:∀ds:z_ D,pF ds ds=true
 |[]=>rfl
 |d::ds=>by simp only[pF,Ee d,GN ds,Bool.and_self]
end
def tJ(H H':Hp):Prop:=∀a xs,Rd H a (.tup xs)->Rd H' a (.tup xs)
theorem tJ.refl(H:Hp):tJ H H:=λ_ _ h=>h
variable{H1 H2:Hp}
theorem tJ.trans(a:tJ H H1)(b:tJ H1 H2):tJ H H2:=λc xs h=>b c xs (a c xs h)
theorem tJ.same(s:E8 H H'):tJ H H':=λa xs h=>by
 rcases h with h|⟨o,h⟩
 ·show .inl (s _ _ h)
 ·show .inr ⟨o,s _ _ h⟩
def CG:A_ HO->Prop
 |some (.tup _)=>False
 |some (.frz _ _)=>False
 |_=>True
theorem tJ.upd{p:td}{o:HO}(h:CG (H p)):tJ H (Z_ p o):=λa xs q=>by
 let ne:a≠p:=by
  rintro rfl;rcases q with q|⟨ob,q⟩
  ·rw[q]at h;show h
  ·rw[q]at h;show h
 rcases q with q|⟨ob,q⟩
 ·show .inl (by rw[bA ne];show q)
 ·show .inr ⟨ob,by rw[bA ne];show q⟩
theorem tJ.sq{xs:z_ V}(t:tJ H H')(h:q1c a xs):SqT K H' a xs:=by
 rcases h with h|h
 ·show .inl (t a xs h)
 ·show .inr h
mutual
theorem Rep.tp(t:tJ H H'):∀{d:D}{v:V},Rep K H d v->Rep K H' d v
 |.non,_,h=>h
 |.bl _,_,h=>h
 |.int _,_,h=>h
 |.str _,_,h=>h
 |.tup ds,_,⟨a,vs,e,q,r⟩=>⟨a,vs,e,t.sq q,iQ.tp t r⟩
theorem iQ.tp(t:tJ H H'):∀{ds:z_ D}{vs:z_ V},iQ K H ds vs->iQ K H' ds vs
 |[],[],_=>trivial
 |_::_,_::_,⟨h,r⟩=>⟨Rep.tp t h,iQ.tp t r⟩
 |[],_::_,h=>h.elim
 |_::_,[],h=>h.elim
end
theorem iQ.length:∀{ds:z_ D}{vs:z_ V},iQ K H ds vs->ds.length=vs.length
 |[],[],_=>rfl
 |_::_,_::_,⟨_,r⟩=>by simp[iQ.length r]
 |[],_::_,h=>h.elim
 |_::_,[],h=>h.elim
theorem iQ.get:∀{ds:z_ D}{vs:z_ V}{i:Nat}{v:V},iQ K H ds vs->vs[i]?=a_ v->∃d,ds[i]?=a_ d/\Rep K H d v
 |[],[],_,_,_,e=>by simp at e
 |d::_,w::_,0,v,⟨h,_⟩,e=>by
  have:w=v:=by simpa using e
  subst this;show⟨d,rfl,h⟩
 |_::ds,_::vs,i+1,v,⟨_,r⟩,e=>by
  let⟨d,h1,h2⟩:=iQ.get (ds:=ds) (vs:=vs) (i:=i) (v:=v) r (k_ e);show⟨d,k_ h1,h2⟩
 |[],_::_,_,_,h,_=>h.elim
 |_::_,[],_,_,h,_=>h.elim
theorem iQ.at:∀{ds:z_ D}{vs:z_ V}{i:Nat}{d:D},iQ K H ds vs->ds[i]?=a_ d->∃v,vs[i]?=a_ v/\Rep K H d v
 |[],[],_,_,_,e=>by simp at e
 |d::_,w::_,0,d',⟨h,_⟩,e=>by
  have:d=d':=by simpa using e
  subst this;show⟨w,rfl,h⟩
 |_::ds,_::vs,i+1,d,⟨_,r⟩,e=>by
  let⟨v,h1,h2⟩:=iQ.at (ds:=ds) (vs:=vs) (i:=i) (d:=d) r (k_ e);show⟨v,k_ h1,h2⟩
 |[],_::_,_,_,h,_=>h.elim
 |_::_,[],_,_,h,_=>h.elim
variable{b:Bool}{fc:z_ V}{its its':z_ r_}
section
theorem tK{v:r_}(h:RcAt A s v u b)(hs:v=u->b=true)(hf:∀f t,v≠.float f t):EqAt A s v u b:=λprog w E Q hq=>by
 unfold eqBool;refine y0c ?_;refine wpAny_ite_split (λhab=>?_) (λ_=>?_)
 ·let e:=hs (eq_of_beq hab);subst e;show xr (wpAny_rule (xw hq))
 ·cases v <;> first|exact absurd rfl (hf _ _)|exact xr (h prog w E _ (y1U hq))|(cases u <;> exact xr (h prog w E _ (y1U hq)))
theorem GO{d:D}{x:V}{v:r_}(h:Rep K H d x)(r:q1e v):∀f t,v≠.float f t:=λf t e=>by
 subst e;cases d with
 |non=>cases h;cases r
 |bl b=>cases h;cases r
 |int b=>cases h;let⟨_,z⟩:=r;cases z
 |str b=>cases h;let⟨_,z⟩:=r;cases z
 |tup ds=>let⟨_,_,rfl,_⟩:=h;cases r
theorem DD(I:Q_ s):∀(n:Nat)(d e:D)(v:V),d.depth<=n->Rep X.K H d v->Rep X.K H e v->d=e
 |n,.non,e,v,_,h,h'=>by
  cases h
  cases e <;> first|(let⟨_,_,z,_⟩:=h';show absurd z (by intro q;cases q))|rfl|exact absurd h' (by intro z;cases z)
 |n,.bl b,e,v,_,h,h'=>by
  cases h
  cases e <;> first|(let⟨_,_,z,_⟩:=h';show absurd z (by intro q;cases q))|(cases h';rfl)|exact absurd h' (by intro z;cases z)
 |n,.int i,e,v,_,h,h'=>by
  cases h
  cases e <;> first|(let⟨_,_,z,_⟩:=h';show absurd z (by intro q;cases q))|(cases h';rfl)|exact absurd h' (by intro z;cases z)
 |n,.str x,e,v,_,h,h'=>by
  cases h
  cases e <;> first|(let⟨_,_,z,_⟩:=h';show absurd z (by intro q;cases q))|(cases h';rfl)|exact absurd h' (by intro z;cases z)
 |0,.tup ds,e,v,hd,h,h'=>absurd hd (by change ¬ X_ 0+1<=0;omega)
 |n+1,.tup ds,e,v,hd,h,h'=>by
  let⟨a,vs,rfl,q,r⟩:=h;cases e with
  |tup es=>
   let⟨a',fc,ea,q',r'⟩:=h';cases ea
   have:=I.tuple_inj q q';subst this;let dr:X_ 0+1<=n+1:=hd;have:ds=es:=by
    apply y0D;intro i;cases hi:ds[i]? with
    |none=>have h1:=r.length;let h2:=r'.length;have:ds.length<=i:=List.getElem?_eq_none_iff.mp hi;show(List.getElem?_eq_none_iff.mpr ⋯).symm
    |some d=>let⟨v,hv,hr⟩:=r.at hi;let⟨e,he,hr'⟩:=r'.get hv;rw[he,DD I n d e v (by have:=D.depths_le hi;omega) hr hr']
   rw[this]
  |_=>cases h'
theorem Am{xs ys:z_ D}:((za (min xs.length ys.length)).all (λj=>match xs[j]?,ys[j]? with|some x,a_ y=>eqD x y|_,_=>false)&&xs.length == ys.length)=pF xs ys:=by
 induction xs generalizing ys with
 |nil=>
  cases ys with
  |nil=>rfl
  |cons y ys=>simp[pF]
 |cons x xs ih=>
  cases ys with
  |nil=>simp[pF]
  |cons y ys=>
   have:=ih (ys:=ys);let e:min (x::xs).length (y::ys).length=min xs.length ys.length+1:=by simp only[zt];omega
   rw[e,List.range_succ_eq_map,y1r,List.all_map];simp only[List.getElem?_cons_zero,Function.comp_def,y0X,zt,pF];rw[<-this];let e2:(xs.length+1 == ys.length+1)=(xs.length == ys.length):=by simp
   rw[e2,Bool.and_assoc]
theorem YM(I:Q_ s):∀(n:Nat)(d e:D)(A:u_)(x y:V)(v u:r_),d.depth<=n->A.units+n<cLine->Rep X.K H d x->Rep X.K H e y->q1e v->RelV y u->RcAt A s v u (eqD d e):=by
 intro n
 induction n with
 |zero=>
  intro d e A x y v u hd hu hx hy rx ry;cases d with
  |tup ds=>exact absurd hd (by change ¬ X_ 0+1<=0;omega)
  |non=>
   cases hx;cases rx;cases e with
   |non=>cases hy;cases ry;show RcAt.none_none
   |bl b=>cases hy;cases ry;show RcAt.none_bool b
   |int b=>cases hy;let⟨t,rfl⟩:=ry;show RcAt.none_int b t
   |str b=>cases hy;let⟨t,rfl⟩:=ry;show RcAt.none_str b t
   |tup es=>let⟨a,vs,rfl,q,r⟩:=hy;cases ry;let⟨its,_,p,_⟩:=I.tuple q;show RcAt.none_tuple p ⋯
  |bl a=>
   cases hx;cases rx;cases e with
   |non=>cases hy;cases ry;show RcAt.bool_none a
   |bl b=>cases hy;cases ry;show RcAt.bool_bool a b
   |int b=>cases hy;let⟨t,rfl⟩:=ry;show RcAt.bool_int a b t
   |str b=>cases hy;let⟨t,rfl⟩:=ry;show RcAt.bool_str a b t
   |tup es=>let⟨a',vs,rfl,q,r⟩:=hy;cases ry;let⟨its,_,p,_⟩:=I.tuple q;show RcAt.bool_tuple a p ⋯
  |int a=>
   cases hx;let⟨t',rfl⟩:=rx;cases e with
   |non=>cases hy;cases ry;show RcAt.int_none a t'
   |bl b=>cases hy;cases ry;show RcAt.int_bool a t' b
   |int b=>cases hy;let⟨t,rfl⟩:=ry;show RcAt.int_int a t' b t
   |str b=>cases hy;let⟨t,rfl⟩:=ry;show RcAt.int_str a t' b t
   |tup es=>let⟨a',vs,rfl,q,r⟩:=hy;cases ry;let⟨its,_,p,_⟩:=I.tuple q;show RcAt.int_tuple a t' p ⋯
  |str a=>
   cases hx;let⟨t',rfl⟩:=rx;cases e with
   |non=>cases hy;cases ry;show RcAt.str_none a t'
   |bl b=>cases hy;cases ry;show RcAt.str_bool a t' b
   |int b=>cases hy;let⟨t,rfl⟩:=ry;show RcAt.str_int a t' b t
   |str b=>cases hy;let⟨t,rfl⟩:=ry;show RcAt.str_str a t' b t
   |tup es=>let⟨a',vs,rfl,q,r⟩:=hy;cases ry;let⟨its,_,p,_⟩:=I.tuple q;show RcAt.str_tuple a t' p ⋯
 |succ n ih=>
  intro d e A x y v u hd hu hx hy rx ry;by_cases h0:d.depth<=n
  ·show ih d e A x y v u h0 ⋯ hx hy rx ry
  ·cases d with
   |non=>exact absurd (show D.depth .non<=n from y9 n) h0
   |bl b=>exact absurd (show D.depth (.bl b)<=n from y9 n) h0
   |int b=>exact absurd (show D.depth (.int b)<=n from y9 n) h0
   |str b=>exact absurd (show D.depth (.str b)<=n from y9 n) h0
   |tup ds=>
    let jz:X_ 0<=n:=by have:X_ 0+1<=n+1:=hd;omega
    let⟨a,vs,rfl,q,r⟩:=hx;cases rx
    let⟨its,rv,p,_⟩:=I.tuple q;cases e with
    |non=>cases hy;cases ry;show RcAt.tuple_none p ⋯
    |bl b=>cases hy;cases ry;show RcAt.tuple_bool b p ⋯
    |int b=>cases hy;let⟨t,rfl⟩:=ry;show RcAt.tuple_int b t p ⋯
    |str b=>cases hy;let⟨t,rfl⟩:=ry;show RcAt.tuple_str b t p ⋯
    |tup es=>
     let⟨a',fc,rfl,q',r'⟩:=hy;cases ry
     let⟨its',bt,p',_⟩:=I.tuple q';let l1:=r.length;let l2:=r'.length;let l3:=rv.length;let l4:=bt.length;let key:=RcAt.tuples (A:=A) (e:=λj=>match ds[j]?,es[j]? with|some x,a_ y=>eqD x y|_,_=>false) p p' ⋯ (λj h1 h2=>by
      let fv:j<ds.length:=by simp at h1;omega
      let dg:j<es.length:=by simp at h2;omega
      let g1:ds[j]?=a_ ds[j]:=by simp[fv]
      let g2:es[j]?=a_ es[j]:=by simp[dg]
      let⟨xv,j8,ic⟩:=r.at g1;let⟨yv,kn,jj⟩:=r'.at g2;let⟨xu,i7,cz⟩:=rv.get j8;let⟨yu,jd,bq⟩:=bt.get kn;let e1:its.toArray[j]=xu:=by have:its[j]?=a_ xu:=i7;simpa using(xt.mp this).2
      let e2:its'.toArray[j]=yu:=by have:its'[j]?=a_ yu:=jd;simpa using(xt.mp this).2
      rw[e1,e2];simp only[g1,g2];let qz:=D.depths_le g1;refine tK (ih ds[j] es[j] A.in1 xv yv xu yu ⋯ (by change A.units+1+n<cLine;omega) ic jj cz bq) (λev=>by
      subst ev;let vb:xv=yv:=RelV.inj cz bq;subst vb;rw[DD I n ds[j] es[j] xv ⋯ ic jj];show Ee _) (GO ic cz))
     let sz:((za (min its.toArray.size its'.toArray.size)).all (λj=>match ds[j]?,es[j]? with|some x,a_ y=>eqD x y|_,_=>false)&&its.toArray.size == its'.toArray.size)=eqD (.tup ds) (.tup es):=by
      let a1:its.toArray.size=ds.length:=by simp;omega
      let a2:its'.toArray.size=es.length:=by simp;omega
      rw[a1,a2];simp only[eqD];show Am
     rw[<-sz];show key
theorem Qk(I:Q_ s){d e:D}{x:V}{v:r_}(hd:d.depth<=n)(hu:A.units+n<cLine)(hx:Rep X.K H d x)(hy:Rep X.K H e y)(rx:q1e v)(ry:RelV y u):EqAt A s v u (eqD d e):=tK (YM I n d e A x y v u hd hu hx hy rx ry) (λev=>by subst ev;let vb:x=y:=RelV.inj rx ry;subst vb;rw[DD I n d e x hd hx hy];show Ee _) (GO hx rx)
theorem WQ(I:Q_ s):∀(n:Nat)(d e:D)(A:u_)(x y:V)(v u:r_),d.depth<=n->A.units+n<cLine->Rep X.K H d x->Rep X.K H e y->q1e v->RelV y u->RcNeAt A s v u (!eqD d e):=by
 intro n
 induction n with
 |zero=>
  intro d e A x y v u hd hu hx hy rx ry;cases d with
  |tup ds=>exact absurd hd (by change ¬ X_ 0+1<=0;omega)
  |non=>
   cases hx;cases rx;cases e with
   |non=>cases hy;cases ry;show RcNeAt.none_none
   |bl b=>cases hy;cases ry;show RcNeAt.none_bool b
   |int b=>cases hy;let⟨t,rfl⟩:=ry;show RcNeAt.none_int b t
   |str b=>cases hy;let⟨t,rfl⟩:=ry;show RcNeAt.none_str b t
   |tup es=>let⟨a,vs,rfl,q,r⟩:=hy;cases ry;let⟨its,_,p,_⟩:=I.tuple q;show RcNeAt.none_tuple p ⋯
  |bl a=>
   cases hx;cases rx;cases e with
   |non=>cases hy;cases ry;show RcNeAt.bool_none a
   |bl b=>cases hy;cases ry;show RcNeAt.bool_bool a b
   |int b=>cases hy;let⟨t,rfl⟩:=ry;show RcNeAt.bool_int a b t
   |str b=>cases hy;let⟨t,rfl⟩:=ry;show RcNeAt.bool_str a b t
   |tup es=>let⟨a',vs,rfl,q,r⟩:=hy;cases ry;let⟨its,_,p,_⟩:=I.tuple q;show RcNeAt.bool_tuple a p ⋯
  |int a=>
   cases hx;let⟨t',rfl⟩:=rx;cases e with
   |non=>cases hy;cases ry;show RcNeAt.int_none a t'
   |bl b=>cases hy;cases ry;show RcNeAt.int_bool a t' b
   |int b=>cases hy;let⟨t,rfl⟩:=ry;show RcNeAt.int_int a t' b t
   |str b=>cases hy;let⟨t,rfl⟩:=ry;show RcNeAt.int_str a t' b t
   |tup es=>let⟨a',vs,rfl,q,r⟩:=hy;cases ry;let⟨its,_,p,_⟩:=I.tuple q;show RcNeAt.int_tuple a t' p ⋯
  |str a=>
   cases hx;let⟨t',rfl⟩:=rx;cases e with
   |non=>cases hy;cases ry;show RcNeAt.str_none a t'
   |bl b=>cases hy;cases ry;show RcNeAt.str_bool a t' b
   |int b=>cases hy;let⟨t,rfl⟩:=ry;show RcNeAt.str_int a t' b t
   |str b=>cases hy;let⟨t,rfl⟩:=ry;show RcNeAt.str_str a t' b t
   |tup es=>let⟨a',vs,rfl,q,r⟩:=hy;cases ry;let⟨its,_,p,_⟩:=I.tuple q;show RcNeAt.str_tuple a t' p ⋯
 |succ n ih=>
  intro d e A x y v u hd hu hx hy rx ry;by_cases h0:d.depth<=n
  ·show ih d e A x y v u h0 ⋯ hx hy rx ry
  ·cases d with
   |non=>exact absurd (show D.depth .non<=n from y9 n) h0
   |bl b=>exact absurd (show D.depth (.bl b)<=n from y9 n) h0
   |int b=>exact absurd (show D.depth (.int b)<=n from y9 n) h0
   |str b=>exact absurd (show D.depth (.str b)<=n from y9 n) h0
   |tup ds=>
    let jz:X_ 0<=n:=by have:X_ 0+1<=n+1:=hd;omega
    let⟨a,vs,rfl,q,r⟩:=hx;cases rx
    let⟨its,rv,p,_⟩:=I.tuple q;cases e with
    |non=>cases hy;cases ry;show RcNeAt.tuple_none p ⋯
    |bl b=>cases hy;cases ry;show RcNeAt.tuple_bool b p ⋯
    |int b=>cases hy;let⟨t,rfl⟩:=ry;show RcNeAt.tuple_int b t p ⋯
    |str b=>cases hy;let⟨t,rfl⟩:=ry;show RcNeAt.tuple_str b t p ⋯
    |tup es=>
     let⟨a',fc,rfl,q',r'⟩:=hy;cases ry
     let⟨its',bt,p',_⟩:=I.tuple q';let l1:=r.length;let l2:=r'.length;let l3:=rv.length;let l4:=bt.length;let key:=RcNeAt.tuples (A:=A) (e:=λj=>match ds[j]?,es[j]? with|some x,a_ y=>eqD x y|_,_=>false) p p' ⋯ (λj h1 h2=>by
      let fv:j<ds.length:=by simp at h1;omega
      let dg:j<es.length:=by simp at h2;omega
      let g1:ds[j]?=a_ ds[j]:=by simp[fv]
      let g2:es[j]?=a_ es[j]:=by simp[dg]
      let⟨xv,j8,ic⟩:=r.at g1;let⟨yv,kn,jj⟩:=r'.at g2;let⟨xu,i7,cz⟩:=rv.get j8;let⟨yu,jd,bq⟩:=bt.get kn;let e1:its.toArray[j]=xu:=by have:its[j]?=a_ xu:=i7;simpa using(xt.mp this).2
      let e2:its'.toArray[j]=yu:=by have:its'[j]?=a_ yu:=jd;simpa using(xt.mp this).2
      rw[e1,e2];simp only[g1,g2];let qz:=D.depths_le g1;show Qk I (n:=n) ⋯ (by change A.units+1+n<cLine;omega) ic jj cz bq)
     let sz:(!((za (min its.toArray.size its'.toArray.size)).all (λj=>match ds[j]?,es[j]? with|some x,a_ y=>eqD x y|_,_=>false)&&its.toArray.size == its'.toArray.size))=(!eqD (.tup ds) (.tup es)):=by
      let a1:its.toArray.size=ds.length:=by simp;omega
      let a2:its'.toArray.size=es.length:=by simp;omega
      rw[a1,a2];simp only[eqD];rw[Am]
     rw[<-sz];show key
def zat(K:yb):R2:=λx y H Q=>∃d e,Rep K H d x/\Rep K H e y/\d.depth<=40/\Q (.bl (eqD d e)) H
def zau(K:yb):R2:=λx y H Q=>∃d e,Rep K H d x/\Rep K H e y/\d.depth<=40/\Q (.bl (!eqD d e)) H
theorem WS(hu:X.A.units+64<cLine)(K:yb)(hK:X.K=K):q0C (zc .Eq) (zat K):=by subst hK;intro P1 s σ H x y v u Q I rx ry h;let⟨d,e,hx,hy,hd,q⟩:=h;show YM I 40 d e X.A x y v u hd ⋯ hx hy rx ry X.prog X.w X.xe _ ⟨.bl _,H,I,rfl,q⟩
theorem WT(hu:X.A.units+64<cLine)(K:yb)(hK:X.K=K):q0C (zc .NotEq) (zau K):=by subst hK;intro P1 s σ H x y v u Q I rx ry h;let⟨d,e,hx,hy,hd,q⟩:=h;show WQ I 40 d e X.A x y v u hd ⋯ hx hy rx ry X.prog X.w X.xe _ ⟨.bl _,H,I,rfl,q⟩
def Oo(K:yb)(H:Hp)(ds:z_ D)(v:V):Prop:=∃a vs,v=.ref a/\q1y a vs/\iQ K H ds vs
theorem GP{xs ys:z_ D}(h:xs.length=ys.length):(za xs.length).all (λj=>match xs[j]?,ys[j]? with|some x,a_ y=>eqD x y|_,_=>false)=pF xs ys:=by have:=Am (xs:=xs) (ys:=ys);rw[h,Nat.min_self,beq_self_eq_true,Bool.and_true]at this;rw[h];show this
theorem JG{xs ys:z_ D}(h:pF xs ys=true):xs.length=ys.length:=by rw[<-Am,zg]at h;show eq_of_beq h.2
theorem Ef{I:Q_ s}{ds es:z_ D}(r:iQ X.K H ds vs)(r':iQ X.K H es fc)(rv:bH vs its)(bt:bH fc its')(hd:X_ 0<=40)(hu:A.units+42<cLine):
  ∀j(h1:j<its.toArray.size)(h2:j<its'.toArray.size),EqAt A.in1 s its.toArray[j] its'.toArray[j] (match ds[j]?,es[j]? with|some x,a_ y=>eqD x y|_,_=>false):=λj h1 h2=>by
 let l1:=r.length;let l2:=r'.length;let l3:=rv.length;let l4:=bt.length;let fv:j<ds.length:=by simp at h1;omega
 let dg:j<es.length:=by simp at h2;omega
 let g1:ds[j]?=a_ ds[j]:=by simp[fv]
 let g2:es[j]?=a_ es[j]:=by simp[dg]
 let⟨xv,j8,ic⟩:=r.at g1;let⟨yv,kn,jj⟩:=r'.at g2;let⟨xu,i7,cz⟩:=rv.get j8;let⟨yu,jd,bq⟩:=bt.get kn;let e1:its.toArray[j]=xu:=by simpa using(xt.mp i7).2
 let e2:its'.toArray[j]=yu:=by simpa using(xt.mp jd).2
 rw[e1,e2];simp only[g1,g2];let qz:=D.depths_le g1;show Qk I (n:=40) ⋯ (by change A.units+1+40<cLine;omega) ic jj cz bq
def zav(K:yb):R2:=λx y H Q=>∃ds es,Oo K H ds x/\Oo K H es y/\X_ 0<=40/\Q (.bl (pF ds es)) H
def zaw(K:yb):R2:=λx y H Q=>∃ds es,Oo K H ds x/\Oo K H es y/\X_ 0<=40/\Q (.bl (!pF ds es)) H
theorem WU(hu:X.A.units+64<cLine)(K:yb)(hK:X.K=K):q0C (zc .Eq) (zav K):=by
 subst hK;intro P1 s σ H x y v u Q I rx ry h;let⟨ds,es,⟨a,vs,rfl,q,r⟩,⟨b,fc,rfl,q',r'⟩,hd,k⟩:=h;cases rx;cases ry;let⟨its,rv,p,_⟩:=I.list q;let⟨its',bt,p',_⟩:=I.list q';let l1:=r.length;let l2:=r'.length;let l3:=rv.length;let l4:=bt.length;by_cases hl:ds.length=es.length
 ·refine eq_listAt p.isList p'.isList (by simp;omega) ⋯ (Ef (I:=I) r r' rv bt hd ⋯) ⟨.bl _,H,I,rfl,?_⟩;let e1:its.toArray.size=ds.length:=by simp;omega
  rw[e1,GP hl];show k
 ·refine eq_list_lengthsAt p.isList p'.isList (by simp;omega) ⋯ ⟨.bl false,H,I,rfl,?_⟩;let e:pF ds es=false:=by
   cases h:pF ds es with
   |false=>rfl
   |true=>exact absurd (JG h) hl
  rw[e]at k;show k
theorem WV(hu:X.A.units+64<cLine)(K:yb)(hK:X.K=K):q0C (zc .NotEq) (zaw K):=by
 subst hK;intro P1 s σ H x y v u Q I rx ry h;let⟨ds,es,⟨a,vs,rfl,q,r⟩,⟨b,fc,rfl,q',r'⟩,hd,k⟩:=h;cases rx;cases ry;let⟨its,rv,p,_⟩:=I.list q;let⟨its',bt,p',_⟩:=I.list q';let l1:=r.length;let l2:=r'.length;let l3:=rv.length;let l4:=bt.length;by_cases hl:ds.length=es.length
 ·refine RcNeAt.lists p.isList p'.isList (by simp;omega) ⋯ (Ef (I:=I) r r' rv bt hd ⋯) X.prog X.w X.xe _ ⟨.bl _,H,I,rfl,?_⟩;let e1:its.toArray.size=ds.length:=by simp;omega
  rw[e1,GP hl];show k
 ·refine RcNeAt.lists_lengths p.isList p'.isList (by simp;omega) ⋯ X.prog X.w X.xe _ ⟨.bl true,H,I,rfl,?_⟩;let e:pF ds es=false:=by
   cases h:pF ds es with
   |false=>rfl
   |true=>exact absurd (JG h) hl
  rw[e]at k;show k
def YN(K:yb)(neg:Bool):R2:=λx y H Q=>∃d p ds vs,y=.ref p/\(q1y p vs\/q1c p vs)/\Rep K H d x/\iQ K H ds vs/\X_ 0<=40/\Q (.bl (if neg then !ds.any (λe=>eqD e d) else ds.any (λe=>eqD e d))) H
noncomputable def isD(K:yb)(H:Hp)(d:D)(u:r_):Bool:=@decide (∃e x,q1e u/\Rep K H e x/\e.depth<=40/\eqD e d=true) (y0Z _)
theorem Ql(I:Q_ s){d e:D}{x:V}(r:q1e u)(h:Rep X.K H e x)(hd:e.depth<=40):q1n d u=eqD e d:=by
 unfold isD;cases q:eqD e d with
 |true=>exact @decide_eq_true _ (y0Z _) ⟨e,x,r,h,hd,q⟩
 |false=>refine @decide_eq_false _ (y0Z _) ?_;rintro⟨e',x',r',h',dr,q'⟩;let ex:x'=x:=RelV.inj r' r;subst ex;rw[DD I 40 e' e x' dr h' h]at q';rw[q]at q';cases q'
theorem An(I:Q_ s){d:D}:∀{ds:z_ D}{vs:z_ V}{us:z_ r_},iQ X.K H ds vs->bH vs us->X_ 0<=40->us.any (q1n d)=ds.any λe=>eqD e d
 |[],[],_,_,.nil,_=>rfl
 |e::ds,_::_,_,⟨h,r⟩,.cons rv iq,hd=>by
  let h1:e.depth<=40/\X_ 0<=40:=by have:max e.depth (X_ 0)<=40:=hd;omega
  rw[y18,y18,Ql I rv h h1.1,An I r iq h1.2]
 |[],_::_,_,h,_,_=>h.elim
 |_::_,[],_,h,_,_=>h.elim
theorem Ao(I:Q_ s){A:u_}{d:D}{x:V}{v:r_}(hx:Rep X.K H d x)(rx:q1e v)(hu:A.units+42<cLine):∀{ds:z_ D}{vs:z_ V}{us:z_ r_},iQ X.K H ds vs->bH vs us->X_ 0<=40->∀u∈us,EqAt A.in1 s u v (q1n d u)
 |[],[],_,_,.nil,_=>λu hu=>by cases hu
 |e::ds,_::_,_,⟨h,r⟩,.cons rv iq,hd=>λu hm=>by
  let h1:e.depth<=40/\X_ 0<=40:=by have:max e.depth (X_ 0)<=40:=hd;omega
  rcases yr.mp hm with rfl|hm
  ·rw[Ql I rv h h1.1];show Qk I (n:=40) h1.1 (by change A.units+1+40<cLine;omega) h hx rv rx
  ·show Ao I hx rx hu r iq h1.2 u hm
 |[],_::_,_,h,_,_=>h.elim
 |_::_,[],_,h,_,_=>h.elim
theorem WW(hu:X.A.units+64<cLine)(K:yb)(hK:X.K=K):q0C (zc .In) (YN K false):=by
 subst hK;intro P1 s σ H x y v u Q I rx ry h;let⟨d,p,ds,vs,rfl,hq,hx,hr,hd,k⟩:=h;cases ry
 rcases hq with hq|hq
 ·let⟨its,r,pl,hz⟩:=I.list hq;refine SeqAt.in_listAt (q1n d) pl.isList (λw hw=>Ao I hx rx ⋯ hr r hd w (k_ hw)) ⟨.bl _,H,I,rfl,?_⟩;rw[show its.toArray.any (q1n d)=its.any (q1n d) by simp,An I hr r hd];show k
 ·let⟨its,r,pl,hz⟩:=I.tuple hq;refine SeqAt.in_tupleAt (q1n d) pl (λw hw=>Ao I hx rx ⋯ hr r hd w (k_ hw)) ⟨.bl _,H,I,rfl,?_⟩;rw[show its.toArray.any (q1n d)=its.any (q1n d) by simp,An I hr r hd];show k
theorem Oq(hu:X.A.units+64<cLine)(K:yb)(hK:X.K=K):q0C (zc .NotIn) (YN K true):=by
 subst hK;intro P1 s σ H x y v u Q I rx ry h;let⟨d,p,ds,vs,rfl,hq,hx,hr,hd,k⟩:=h;cases ry
 rcases hq with hq|hq
 ·let⟨its,r,pl,hz⟩:=I.list hq;refine SeqAt.notIn_listAt (q1n d) pl.isList (λw hw=>Ao I hx rx ⋯ hr r hd w (k_ hw)) ⟨.bl _,H,I,rfl,?_⟩;rw[show its.toArray.any (q1n d)=its.any (q1n d) by simp,An I hr r hd];show k
 ·let⟨its,r,pl,hz⟩:=I.tuple hq;refine SeqAt.notIn_tupleAt (q1n d) pl (λw hw=>Ao I hx rx ⋯ hr r hd w (k_ hw)) ⟨.bl _,H,I,rfl,?_⟩;rw[show its.toArray.any (q1n d)=its.any (q1n d) by simp,An I hr r hd];show k
end
open PySem
def keyLt:Sum Int Str->Sum Int Str->Bool
 |.inl a,.inl b=>decide (a<b)
 |.inr a,.inr b=>decide (a.cps.toList<b.cps.toList)
 |_,_=>false
def fE:z_ (Sum Int Str)->z_ (Sum Int Str)->Bool
 |[],[]=>false
 |[],_::_=>true
 |_::_,[]=>false
 |x::xs,y::ys=>if x=y then fE xs ys else keyLt x y
def kA:Sum Int Str->Bool
 |.inl _=>true
 |.inr _=>false
abbrev shape(ks:z_ (Sum Int Str)):z_ Bool:=ks.map kA
theorem Nd{a b:Str}(h:a.cps.toList=b.cps.toList):a=b:=by
 cases a;cases b
 congr;show Array.toList_inj.mp h
theorem Qm{a b:Sum Int Str}(h:keyLt a b=true):keyLt b a=false:=by
 cases a <;> cases b <;> first|rfl|skip
 ·have:_<_:=of_decide_eq_true h;show decide_eq_false ⋯
 ·show decide_eq_false (List.lt_asymm (of_decide_eq_true h))
theorem GQ{a b:Sum Int Str}(k:kA a=kA b)(h:keyLt a b=false)(h':keyLt b a=false):a=b:=by
 cases a <;> cases b <;> first|cases k|skip
 ·let h1:=of_decide_eq_false h;let h2:=of_decide_eq_false h';congr 1;omega
 ·let h1:=of_decide_eq_false h;let h2:=of_decide_eq_false h';congr 1;show Nd (List.le_antisymm (y2a.mp h2) (y2a.mp h1))
theorem Qn:∀{a b c:Sum Int Str},kA a=kA b->kA b=kA c->keyLt b a=false->keyLt c b=false->keyLt c a=false
 |.inl a,.inl b,.inl c,_,_,h,h'=>by let h1:¬ b<a:=of_decide_eq_false h;let h2:¬ c<b:=of_decide_eq_false h';show decide_eq_false ⋯
 |.inr a,.inr b,.inr c,_,_,h,h'=>by let h1:a.cps.toList<=b.cps.toList:=y2a.mp (of_decide_eq_false h);let h2:b.cps.toList<=c.cps.toList:=y2a.mp (of_decide_eq_false h');show decide_eq_false (y2a.mpr (List.le_trans h1 h2))
 |.inl _,.inr _,_,k,_,_,_=>by cases k
 |.inr _,.inl _,_,k,_,_,_=>by cases k
 |.inl _,.inl _,.inr _,_,k,_,_=>by cases k
 |.inr _,.inr _,.inl _,_,k,_,_=>by cases k
theorem Ap:∀{a b:z_ (Sum Int Str)},fE a b=true->fE b a=false
 |[],[],_=>rfl
 |[],_::_,_=>rfl
 |_::_,[],h=>by cases h
 |x::xs,y::ys,h=>by
  unfold fE at h⊢;by_cases e:x=y
  ·subst e;rw[q0k 0]at h⊢;show Ap h
  ·rw[if_neg e]at h;rw[if_neg λz=>e z.symm];show Qm h
theorem Aq:∀{a b:z_ (Sum Int Str)},shape a=shape b->fE a b=false->fE b a=false->a=b
 |[],[],_,_,_=>rfl
 |[],_::_,s,_,_=>by cases s
 |_::_,[],s,_,_=>by cases s
 |x::xs,y::ys,s,h,h'=>by
  let s1:kA x=kA y:=by simpa using congrArg List.head? s
  let s2:shape xs=shape ys:=by simpa using congrArg List.tail s
  unfold fE at h h';by_cases e:x=y
  ·subst e;rw[q0k 0]at h h';rw[Aq s2 h h']
  ·rw[if_neg e]at h;rw[if_neg λz=>e z.symm]at h';show absurd (GQ s1 h h') e
theorem xK:∀{a b c:z_ (Sum Int Str)},shape a=shape b->shape b=shape c->fE b a=false->fE c b=false->fE c a=false
 |[],[],[],_,_,_,_=>rfl
 |[],[],_::_,_,s',_,_=>by cases s'
 |[],_::_,_,s,_,_,_=>by cases s
 |_::_,[],_,s,_,_,_=>by cases s
 |_::_,_::_,[],_,s',_,_=>by cases s'
 |x::xs,y::ys,z::zs,s,s',h,h'=>by
  let s1:kA x=kA y:=by simpa using congrArg List.head? s
  let s2:shape xs=shape ys:=by simpa using congrArg List.tail s
  let s3:kA y=kA z:=by simpa using congrArg List.head? s'
  let s4:shape ys=shape zs:=by simpa using congrArg List.tail s'
  unfold fE at h h'⊢;by_cases e:y=x
  ·subst e;rw[q0k 0]at h;by_cases e':z=y
   ·subst e';rw[q0k 0]at h'⊢;show xK s2 s4 h h'
   ·rw[if_neg e']at h'⊢;show h'
  ·rw[if_neg e]at h;by_cases e':z=y
   ·subst e';rw[if_neg e];show h
   ·rw[if_neg e']at h';by_cases e2:z=x
    ·subst e2;exfalso;show e (GQ s3 h h')
    ·rw[if_neg e2];show Qn s1 s3 h h'
open PySem PySem.W PyProof.Rows
section
variable(lt:Nat->Nat->Bool)
def evT{α:Type}:KasT α->α
 |.ret a=>a
 |.ask i j k=>evT (k (lt i j))
theorem sG{α β:Type}(f:α->KasT β):∀t:KasT α,M_ (t.bind f)=M_ (f (M_ t))
 |.ret _=>rfl
 |.ask i j k=>sG f (k (lt i j))
abbrev pa'(p:q0G 0)(i:Nat):Nat:=p.getD i 0
def STo(p:q0G 0)(k:Nat):Prop:=∀i j,i<=j->j<k->lt (q0J j) (q0J i)=false
def NIc(p:q0G 0)(k:Nat):Prop:=∀i j,i<=j->j<k->lt (q0J i) (q0J j)=false
end
theorem pW{p:q0G 0}:q0J i=(p[i]?).getD 0:=by unfold pa';simp[Array.getD_eq_getD_getElem?]
structure Qo(lt:Nat->Nat->Bool)(p:Array Nat)(n f:Nat)(r:Array Nat×Nat×Nat):Prop where
 perm:r.1.Perm p
 lo:n<=r.2.1
 hi:r.2.1<=n+f
 q:r.2.2+1<=r.2.1
 ni:NIc lt r.1 r.2.1
 eq:∀i j,r.2.1-(r.2.2+1)<=i->i<r.2.1->r.2.1-(r.2.2+1)<=j->j<r.2.1->lt (pa' r.1 i) (pa' r.1 j)=false
variable{nrem:Nat}
section
variable{lt:Nat->Nat->Bool}(tr:∀i j k,lt j i=false->lt k j=false->lt k i=false)(as:∀i j,lt i j=true->lt j i=false)
include as in
theorem oF(i:Nat):lt i i=false:=by
 cases h:lt i i with
 |false=>rfl
 |true=>have:=as i i h;rw[h]at this;show this
include tr as
theorem LK(p:q0G 0):∀f n,1<=n->STo lt p n->n<=M_ (q0Q f n)/\M_ (q0Q f n)<=n+f/\STo lt p (M_ (q0Q f n))
 |0,n,_,h=>⟨yg _,yg _,h⟩
 |f+1,n,h1,h=>by
  let e:M_ (q0Q (f+1) n)=M_ (if lt (p.getD n 0) (p.getD (n-1) 0)=true then KasT.ret n else kas_asc p f (n+1)):=rfl;rw[e];by_cases c:lt (p.getD n 0) (p.getD (n-1) 0)=true
  ·rw[if_pos c];show⟨yg _,Nat.le_add_right _ _,h⟩
  ·rw[if_neg c];let c':lt (p.getD n 0) (p.getD (n-1) 0)=false:=by simpa using c
   let h2:STo lt p (n+1):=λi j bz hj=>by
    rcases y00 (Nat.le_of_lt_succ hj) with hj|rfl
    ·show h i j bz hj
    ·rcases y00 bz with hi|rfl
     ·show tr _ _ _ (h i (j-1) ⋯ ⋯) c'
     ·show oF as _
   let⟨a,b,c⟩:=LK p f (n+1) ⋯ h2;show⟨⋯,⋯,c⟩
theorem rev_eq{p:q0G 0}{a:Nat}(hn:n<=p.size)(eq:∀i j,a<=i->i<n->a<=j->j<n->lt (q0J i) (q0J j)=false)(i j:Nat):
  lt (pa' (q1o a n) i) (pa' (q1o a n) j)=lt (q0J i) (q0J j):=by
 let g:∀k,pa' (q1o a n) k=if a<=k/\k<n then pa' p (a+n-1-k) else q0J k:=λk=>by rw[pW,pW,pW];unfold kas_rev;rw[getElem?_mirror_all hn];split <;> rfl
 let sim:∀k,∃k',pa' (q1o a n) k=q0J k'/\lt (q0J k) (q0J k')=false/\lt (q0J k') (q0J k)=false:=λk=>by
  rw[g];by_cases h:a<=k/\k<n
  ·rw[if_pos h];show⟨_,rfl,eq _ _ h.1 h.2 ⋯ ⋯,eq _ _ ⋯ ⋯ h.1 h.2⟩
  ·rw[if_neg h];show⟨k,rfl,oF as _,oF as _⟩
 let⟨i',ei,i1,i2⟩:=sim i;let⟨j',ej,j1,j2⟩:=sim j;rw[ei,ej];cases h1:lt (q0J i) (q0J j) with
 |false=>exact tr _ _ _ j1 (tr _ _ _ h1 i2)
 |true=>
  cases h2:lt (q0J i') (q0J j') with
  |true=>rfl
  |false=>have:=tr _ _ _ j2 (tr _ _ _ h2 i1);rw[h1]at this;show this.symm
theorem HX:∀f (p:q0G 0) n q,n+f<=p.size->q+1<=n->NIc lt p n->(∀i j,n-(q+1)<=i->i<n->n-(q+1)<=j->j<n->lt (q0J i) (q0J j)=false)->Qo lt p n f (M_ (kas_desc f p n q))
 |0,p,n,q,_,hq,hN,hE=>⟨y2l _,yg _,yg _,hq,hN,hE⟩
 |f+1,p,n,q,hs,hq,hN,hE=>by
  let e:M_ (kas_desc (f+1) p n q)=M_ (if lt (p.getD n 0) (p.getD (n-1) 0)=true then(if q>0 then kas_desc f (q1o (n-(q+1)) n) (n+1) 0 else kas_desc f p (n+1) 0)
    else .ask (p.getD (n-1) 0) (p.getD n 0) λd=>if d=true then .ret (p,n,q) else kas_desc f p (n+1) (q+1)):=rfl
  by_cases c:lt (p.getD n 0) (p.getD (n-1) 0)=true
  ·let down:∀p':q0G 0,p'.Perm p->(∀i j,lt (pa' p' i) (pa' p' j)=lt (q0J i) (q0J j))->M_ (kas_desc (f+1) p n q)=M_ (kas_desc f p' (n+1) 0)->Qo lt p n (f+1) (M_ (kas_desc (f+1) p n q)):=λp' hp hl hev=>by
    let m5:NIc lt p' (n+1):=λi j bz hj=>by
     rw[hl];rcases y00 (Nat.le_of_lt_succ hj) with hj|rfl
     ·show hN i j bz hj
     ·rcases y00 bz with hi|rfl
      ·show tr _ _ _ (as _ _ c) (hN i (j-1) ⋯ ⋯)
      ·show oF as _
    let o3:∀i j,n+1-(0+1)<=i->i<n+1->n+1-(0+1)<=j->j<n+1->lt (pa' p' i) (pa' p' j)=false:=λi j h1 h2 h3 h4=>by
     have:i=j:=⋯;subst this;show oF as _
    let ih:=HX f p' (n+1) 0 (by rw[hp.size_eq];omega) ⋯ m5 o3;rw[<-hev]at ih;let⟨a1,a2,a3,a4,a5,a6⟩:=ih;show⟨a1.trans hp,⋯,⋯,a4,a5,a6⟩
   rw[if_pos c]at e;by_cases hq0:q>0
   ·rw[if_pos hq0]at e;show down _ (y2m _ _ _ _) (rev_eq tr as ⋯ hE) e
   ·rw[if_neg hq0]at e;show down p (y2l _) (λ_ _=>rfl) e
  ·rw[if_neg c]at e;let c':lt (p.getD n 0) (p.getD (n-1) 0)=false:=by simpa using c
   let e2:M_ (kas_desc (f+1) p n q)=M_ (if lt (p.getD (n-1) 0) (p.getD n 0)=true then KasT.ret (p,n,q) else kas_desc f p (n+1) (q+1)):=e;by_cases d:lt (p.getD (n-1) 0) (p.getD n 0)=true
   ·rw[if_pos d]at e2;rw[e2];show⟨y2l _,yg _,Nat.le_add_right _ _,hq,hN,hE⟩
   ·rw[if_neg d]at e2;let d':lt (p.getD (n-1) 0) (p.getD n 0)=false:=by simpa using d
    let m5:NIc lt p (n+1):=λi j bz hj=>by
     rcases y00 (Nat.le_of_lt_succ hj) with hj|rfl
     ·show hN i j bz hj
     ·rcases y00 bz with hi|rfl
      ·show tr _ _ _ d' (hN i (j-1) ⋯ ⋯)
      ·show oF as _
    let o3:∀i j,n+1-(q+1+1)<=i->i<n+1->n+1-(q+1+1)<=j->j<n+1->lt (q0J i) (q0J j)=false:=λi j h1 h2 h3 h4=>by
     by_cases hi:i=n
     ·by_cases hj:j=n
      ·rw[hi,hj];show oF as _
      ·rw[hi];show tr _ _ _ (hE (n-1) j ⋯ ⋯ ⋯ ⋯) c'
     ·by_cases hj:j=n
      ·rw[hj];show tr _ _ _ d' (hE i (n-1) ⋯ ⋯ ⋯ ⋯)
      ·show hE i j ⋯ ⋯ ⋯ ⋯
    let ih:=HX f p (n+1) (q+1) ⋯ ⋯ m5 o3;rw[<-e2]at ih;let⟨a1,a2,a3,a4,a5,a6⟩:=ih;show⟨a1,⋯,⋯,a4,a5,a6⟩
theorem JH{p:q0G 0}(h1:1<=n)(hn:n<=nrem)(hz:nrem<=p.size)(hN:NIc lt p n):
  n<=(M_ (kas_tail3 n nrem p)).1/\(M_ (kas_tail3 n nrem p)).1<=nrem/\(M_ (kas_tail3 n nrem p)).2.Perm p/\STo lt (M_ (kas_tail3 n nrem p)).2 (M_ (kas_tail3 n nrem p)).1:=by
 let e:M_ (kas_tail3 n nrem p)=(M_ (kas_asc (q1o 0 n) (nrem-n) n),q1o 0 n):=by unfold kas_tail3;rw[sG];rfl
 let g:∀k,k<n->pa' (q1o 0 n) k=q0J (n-1-k):=λk hk=>by
  rw[pW,pW];unfold kas_rev;rw[getElem?_mirror_all ⋯,if_pos ⋯];congr 2;omega
 let hS:STo lt (q1o 0 n) n:=λi j bz hj=>by rw[g i ⋯,g j hj];show hN _ _ ⋯ ⋯
 let⟨a,b,c⟩:=LK tr as (q1o 0 n) (nrem-n) n h1 hS;rw[e];show⟨a,by change M_ (kas_asc (q1o 0 n) (nrem-n) n)<=nrem;omega,y2m _ _ _ _,c⟩
theorem CH{p:q0G 0}(h1:1<=n)(hn:n+1<=nrem)(hz:nrem<=p.size)(hN:NIc lt p n)(hd:lt (q0J n) (q0J (n-1))=true):
  1<=(M_ (q1p 0)).1/\(M_ (q1p 0)).1<=nrem/\(M_ (q1p 0)).2.Perm p/\STo lt (M_ (q1p 0)).2 (M_ (q1p 0)).1:=by
 let m5:NIc lt p (n+1):=λi j bz hj=>by
  rcases y00 (Nat.le_of_lt_succ hj) with hj|rfl
  ·show hN i j bz hj
  ·rcases y00 bz with hi|rfl
   ·show tr _ _ _ (as _ _ hd) (hN i (j-1) ⋯ ⋯)
   ·show oF as _
 let o3:∀i j,n+1-(0+1)<=i->i<n+1->n+1-(0+1)<=j->j<n+1->lt (q0J i) (q0J j)=false:=λi j h1 h2 h3 h4=>by
  have:i=j:=⋯;subst this;show oF as _
 let D:=HX tr as (nrem-(n+1)) p (n+1) 0 ⋯ ⋯ m5 o3;let e:M_ (q1p 0)=M_ (if(M_ (kas_desc (nrem-(n+1)) p (n+1) 0)).2.2>0 then kas_tail3 (M_ (kas_desc (nrem-(n+1)) p (n+1) 0)).2.1 nrem (kas_rev (M_ (kas_desc (nrem-(n+1)) p (n+1) 0)).1 ((M_ (kas_desc (nrem-(n+1)) p (n+1) 0)).2.1-((M_ (kas_desc (nrem-(n+1)) p (n+1) 0)).2.2+1)) (M_ (kas_desc (nrem-(n+1)) p (n+1) 0)).2.1) else kas_tail3 (M_ (kas_desc (nrem-(n+1)) p (n+1) 0)).2.1 nrem (M_ (kas_desc (nrem-(n+1)) p (n+1) 0)).1):=by unfold kas_descPart;rw[sG]
 generalize evT lt (kas_desc (nrem-(n+1)) p (n+1) 0)=r at D e;let⟨a1,a2,a3,a4,a5,a6⟩:=D;let sz:r.1.size=p.size:=a1.size_eq;rw[e];by_cases hq:r.2.2>0
 ·rw[if_pos hq];let hl:=rev_eq tr as (p:=r.1) (a:=r.2.1-(r.2.2+1)) (n:=r.2.1) ⋯ a6;let⟨b1,b2,b3,b4⟩:=JH tr as (n:=r.2.1) (nrem:=nrem) (p:=kas_rev r.1 (r.2.1-(r.2.2+1)) r.2.1) ⋯ ⋯ (by unfold kas_rev;rw[mirror_size];omega) (λi j bz hj=>by rw[hl];show a5 i j bz hj);show⟨⋯,b2,(b3.trans (y2m _ _ _ _)).trans a1,b4⟩
 ·rw[if_neg hq];let⟨b1,b2,b3,b4⟩:=JH tr as (n:=r.2.1) (nrem:=nrem) (p:=r.1) ⋯ ⋯ ⋯ a5;show⟨⋯,b2,b3.trans a1,b4⟩
theorem Eg(p:q0G 0):∀f n,1<=n->M_ (q0Q f n)<n+f->lt (q0J (M_ (q0Q f n))) (q0J (M_ (q0Q f n)-1))=true
 |0,n,_,h=>absurd h (y0P _)
 |f+1,n,h1,h=>by
  let e:M_ (q0Q (f+1) n)=M_ (if lt (p.getD n 0) (p.getD (n-1) 0)=true then KasT.ret n else kas_asc p f (n+1)):=rfl;rw[e]at h⊢;by_cases c:lt (p.getD n 0) (p.getD (n-1) 0)=true
  ·rw[if_pos c];show c
  ·rw[if_neg c]at h⊢;show Eg p f (n+1) ⋯ ⋯
theorem Qp{p:q0G 0}(h1:1<=nrem)(hz:nrem<=p.size):
  1<=(M_ (kas_count nrem p)).1/\(M_ (kas_count nrem p)).1<=nrem/\(M_ (kas_count nrem p)).2.Perm p/\STo lt (M_ (kas_count nrem p)).2 (M_ (kas_count nrem p)).1:=by
 let h0:STo lt p 1:=λi j bz hj=>by
  have:i=j:=⋯;subst this;show oF as _
 let⟨a,b,c⟩:=LK tr as p (nrem-1) 1 (yg _) h0;let stop:=Eg tr as p (nrem-1) 1 (yg _);let e:M_ (kas_count nrem p)=M_ (if(M_ (q0Q (nrem-1) 1) == nrem)=true then .ret (M_ (q0Q (nrem-1) 1),p) else if M_ (q0Q (nrem-1) 1)>1 then .ask (p.getD 0 0) (p.getD (M_ (q0Q (nrem-1) 1)-1) 0) λc=>if c=true then .ret (M_ (q0Q (nrem-1) 1),p) else kas_descPart (M_ (q0Q (nrem-1) 1)) nrem (q1o 0 (M_ (q0Q (nrem-1) 1))) else kas_descPart (M_ (q0Q (nrem-1) 1)) nrem p):=by unfold kas_count;rw[sG]
 generalize evT lt (q0Q (nrem-1) 1)=n at a b c e stop;rw[e];by_cases hn:(n == nrem)=true
 ·rw[if_pos hn];show⟨a,by change n<=nrem;omega,y2l _,c⟩
 ·rw[if_neg hn];let mz:n≠nrem:=by simpa using hn
  let st:=stop ⋯;by_cases h2:n>1
  ·rw[if_pos h2];let e2:∀k:Bool->KasT (Nat×q0G 0),M_ (.ask (p.getD 0 0) (p.getD (n-1) 0) k)=M_ (k (lt (p.getD 0 0) (p.getD (n-1) 0))):=λ_=>rfl;rw[e2];by_cases h3:lt (p.getD 0 0) (p.getD (n-1) 0)=true
   ·rw[if_pos h3];show⟨a,by change n<=nrem;omega,y2l _,c⟩
   ·rw[if_neg h3];let h3':lt (q0J 0) (q0J (n-1))=false:=by simpa using h3
    let eq:∀i j,0<=i->i<n->0<=j->j<n->lt (q0J i) (q0J j)=false:=λi j _ hi _ hj=>by show tr _ _ _ (c j (n-1) ⋯ ⋯) (tr _ _ _ h3' (c 0 i ⋯ hi))
    let hl:=rev_eq tr as (p:=p) (a:=0) (n:=n) ⋯ eq;let g:pa' (q1o 0 n) n=q0J n:=by rw[pW,pW];unfold kas_rev;rw[getElem?_mirror_all ⋯,if_neg ⋯]
    let⟨b1,b2,b3,b4⟩:=CH tr as (n:=n) (nrem:=nrem) (p:=q1o 0 n) a ⋯ (by unfold kas_rev;rw[mirror_size];omega) (λi j bz hj=>by rw[hl];show eq i j ⋯ ⋯ ⋯ hj) (by rw[hl];show st);show⟨b1,b2,b3.trans (y2m _ _ _ _),b4⟩
  ·rw[if_neg h2];let hn1:n=1:=⋯;subst hn1;show CH tr as (n:=1) (nrem:=nrem) (p:=p) (yg _) ⋯ hz (λi j bz hj=>by
    have:i=j:=⋯;subst this;show oF as _) st
theorem Eh(p:q0G 0)(k:Nat)(hS:STo lt p k):∀f l r,r-l<=f->l<=r->r<=k->(∀i,i<l->lt (q0J k) (q0J i)=false)->(∀i,r<=i->i<k->lt (q0J k) (q0J i)=true)->
  l<=M_ (q0U f l r)/\M_ (q0U f l r)<=k/\(∀i,i<M_ (q0U f l r)->lt (q0J k) (q0J i)=false)/\(∀i,M_ (q0U f l r)<=i->i<k->lt (q0J k) (q0J i)=true)
 |0,l,r,hf,hl,hr,h1,h2=>by
  have:l=r:=⋯;subst this;show⟨yg _,hr,h1,h2⟩
 |f+1,l,r,hf,hl,hr,h1,h2=>by
  let e:M_ (q0U (f+1) l r)=M_ (if l >= r then .ret l else .ask (p.getD k 0) (p.getD ((l+r)/2) 0) λc=>if c=true then kas_place p k f l ((l+r)/2) else q0U f ((l+r)/2+1) r):=rfl;rw[e];by_cases ir:l >= r
  ·rw[if_pos ir];have:l=r:=⋯;subst this;show⟨yg _,hr,h1,h2⟩
  ·rw[if_neg ir];let e2:∀q:Bool->KasT Nat,M_ (.ask (p.getD k 0) (p.getD ((l+r)/2) 0) q)=M_ (q (lt (p.getD k 0) (p.getD ((l+r)/2) 0))):=λ_=>rfl;rw[e2];by_cases c:lt (p.getD k 0) (p.getD ((l+r)/2) 0)=true
   ·rw[if_pos c];refine Eh p k hS f l ((l+r)/2) ⋯ ⋯ ⋯ h1 λi hi hk=>?_;cases q:lt (q0J k) (q0J i) with
    |true=>rfl
    |false=>
     have:=tr _ _ _ (hS ((l+r)/2) i hi hk) q;rw[show lt (q0J k) (q0J ((l+r)/2))=true from c]at this
     show this.symm
   ·rw[if_neg c];let c':lt (q0J k) (q0J ((l+r)/2))=false:=by simpa using c
    let⟨b1,b2,b3,b4⟩:=Eh p k hS f ((l+r)/2+1) r ⋯ ⋯ hr (λi hi=>by
     cases q:lt (q0J k) (q0J i) with
     |false=>rfl
     |true=>
      exfalso;let s1:=hS i ((l+r)/2) ⋯ ⋯;let s2:=as _ _ q;have:lt (q0J k) (q0J i)=false:=by
       -- p[mid]<=p[k] (c'),p[i]<=p[mid]
       show tr _ _ _ s1 c'
      rw[q]at this;cases this) h2
    show⟨⋯,b2,b3,b4⟩
theorem Qq:∀f (p:q0G 0) k,1<=k->k+f<=p.size->STo lt p k->(M_ (kas_bin f p k)).Perm p/\STo lt (M_ (kas_bin f p k)) (k+f)
 |0,p,k,_,_,h=>⟨y2l _,h⟩
 |f+1,p,k,h1,hz,h=>by
  let e:M_ (kas_bin (f+1) p k)=M_ (kas_bin f (bubble p k (k-M_ (q0U k 0 k))) (k+1)):=by
   change M_ ((q0U k 0 k).bind λl=>kas_bin f (bubble p k (k-l)) (k+1))=_
   rw[sG]
  let⟨b1,b2,b3,b4⟩:=Eh tr as p k h k 0 k ⋯ (y9 _) (yg _) (λi hi=>absurd hi (y1E _)) (λi hi hk=>absurd hk ⋯);generalize evT lt (q0U k 0 k)=l at e b1 b2 b3 b4;let g:∀i,pa' (bubble p k (k-l)) i=if i=l then pa' p k else if l<i/\i<=k then pa' p (i-1) else q0J i:=λi=>by
   rw[pW,pW,pW,pW,getElem?_bubble ⋯ _ ⋯];let el:k-(k-l)=l:=⋯;rw[el];split
   ·rfl
   ·split <;> rfl
  let hS:STo lt (bubble p k (k-l)) (k+1):=λi j bz hj=>by
   rw[g i,g j];by_cases hj1:j=l
   ·by_cases hi1:i=l
    ·rw[if_pos hj1,if_pos hi1];show oF as _
    ·rw[if_pos hj1,if_neg hi1,if_neg ⋯];show b3 i ⋯
   ·rw[if_neg hj1];by_cases hi1:i=l
    ·rw[if_pos hi1,if_pos ⋯];show as _ _ (b4 (j-1) ⋯ ⋯)
    ·rw[if_neg hi1];by_cases hj2:l<j/\j<=k
     ·rw[if_pos hj2];by_cases qf:l<i/\i<=k
      ·rw[if_pos qf];show h _ _ ⋯ ⋯
      ·rw[if_neg qf];show h _ _ ⋯ ⋯
     ·rw[if_neg hj2,if_neg ⋯];show h _ _ bz ⋯
  let ih:=Qq f (bubble p k (k-l)) (k+1) ⋯ (by rw[bubble_size];omega) hS;rw[e];show⟨ih.1.trans (bubble_perm _ _ _),by rw[show k+(f+1)=k+1+f by omega];show ih.2⟩
theorem U1(h1:1<=n):(M_ (kas_sort n)).toList.Perm (za n)/\(M_ (kas_sort n)).toList.Pairwise (λi j=>lt j i=false):=by
 let e:M_ (kas_sort n)=M_ (if(M_ (kas_count n (y12 (za n)))).1<n then kas_bin (n-max (M_ (kas_count n (y12 (za n)))).1 1) (M_ (kas_count n (y12 (za n)))).2 (max (M_ (kas_count n (y12 (za n)))).1 1) else .ret (M_ (kas_count n (y12 (za n)))).2):=by unfold kas_sort;rw[sG]
 let⟨a1,a2,a3,a4⟩:=Qp tr as (nrem:=n) (p:=y12 (za n)) h1 (by simp);generalize evT lt (kas_count n (y12 (za n)))=r at e a1 a2 a3 a4;let fin:∀p:q0G 0,p.Perm (y12 (za n))->STo lt p n->p.toList.Perm (za n)/\p.toList.Pairwise (λi j=>lt j i=false):=λp hp hs=>by
  let hsz:p.size=n:=by rw[hp.size_eq];simp
  refine⟨by simpa using Array.perm_iff_toList_perm.mp hp,?_⟩
  rw[List.pairwise_iff_getElem];intro i j hi hj bz;let aw:i<p.size:=by simpa using hi
  let l9:j<p.size:=by simpa using hj
  have:=hs i j (y0G bz) ⋯;simpa[pa',Array.getD,aw,l9] using this
 rw[e];by_cases ak:r.1<n
 ·rw[if_pos ak];let hm:max r.1 1=r.1:=⋯;rw[hm];let⟨b1,b2⟩:=Qq tr as (n-r.1) r.2 r.1 a1 (by rw[a3.size_eq];simp;omega) a4;refine fin _ (b1.trans a3) ?_;rw[show r.1+(n-r.1)=n by omega]at b2;show b2
 ·rw[if_neg ak];have:r.1=n:=⋯;show fin _ a3 (this▸a4)
end
open PySem.SeqAt PySem.W
def InP{α:Type}(n:Nat)(P:α->Prop):KasT α->Prop
 |.ret a=>P a
 |.ask i j k=>i<n/\j<n/\∀b,InP n P (k b)
theorem InP.bind{α β:Type}{P:α->Prop}{Q:β->Prop}{f:α->KasT β}:∀{t:KasT α},InP n P t->(∀a,P a->InP n Q (f a))->InP n Q (t.bind f)
 |.ret a,h,hf=>hf a h
 |.ask i j k,⟨h1,h2,h3⟩,hf=>⟨h1,h2,λb=>InP.bind (h3 b) hf⟩
theorem InP.mono{α:Type}{P Q:α->Prop}(hq:∀a,P a->Q a):∀{t:KasT α},InP n P t->InP n Q t
 |.ret a,h=>hq a h
 |.ask i j k,⟨h1,h2,h3⟩=>⟨h1,h2,λb=>InP.mono hq (h3 b)⟩
def AllLt(n:Nat)(p:q0G 0):Prop:=∀k,p.getD k 0<n
theorem AllLt.of{p q:q0G 0}(h:AllLt n p)(g:∀k:Nat,q[k]?=b_\/∃k':Nat,q[k]?=p[k']?)(hn:0<n):AllLt n q:=λk=>by
 let e:∀(r:q0G 0) k,r.getD k 0=(r[k]?).getD 0:=λr k=>by simp[Array.getD_eq_getD_getElem?]
 rw[e];rcases g k with h1|⟨k',h1⟩
 ·rw[h1];show hn
 ·rw[h1,<-e];show h k'
theorem AllLt.perm{p q:q0G 0}(h:AllLt n p)(hp:q.Perm p)(hn:0<n):AllLt n q:=by
 refine AllLt.of h (λk=>?_) hn;cases e:q[k]? with
 |none=>exact .inl rfl
 |some v=>
  right;let hm:v∈q.toList:=by
   have:q.toList[k]?=a_ v:=by simpa using e
   show zi this
  let qa:v∈p.toList:=(Array.perm_iff_toList_perm.mp hp).mem_iff.mp hm;let⟨k',hk⟩:=y1L.mp qa;show⟨k',by rw[<-hk];simp⟩
section
variable(hn:0<n)
include hn
theorem HY{p:q0G 0}(h:AllLt n p):∀f m,InP n (λ_=>True) (q0Q f m)
 |0,m=>trivial
 |f+1,m=>⟨h _,h _,λb=>by
  cases b with
  |true=>exact trivial
  |false=>exact HY h f (m+1)⟩
theorem Ar:∀f (p:q0G 0) m q,AllLt n p->InP n (λr=>AllLt n r.1) (kas_desc f p m q)
 |0,p,m,q,h=>h
 |f+1,p,m,q,h=>⟨h _,h _,λb=>by
  cases b with
  |true=>
   change InP n _ (if q>0 then kas_desc f (q1o (m-(q+1)) m) (m+1) 0 else kas_desc f p (m+1) 0)
   by_cases hq:q>0
   ·rw[if_pos hq];show Ar f _ _ _ (h.perm (y2m _ _ _ _) hn)
   ·rw[if_neg hq];show Ar f _ _ _ h
  | false=>exact ⟨h _,h _,fun d=>by
    cases d with
    |true=>exact h
    |false=>exact Ar f _ _ _ h⟩⟩
theorem GR{p:q0G 0}(h:AllLt n p)(m r:Nat):InP n (λx=>AllLt n x.2) (kas_tail3 m r p):=by unfold kas_tail3;show InP.bind (HY hn (h.perm (y2m _ _ _ _) hn) _ _) λa _=>h.perm (y2m _ _ _ _) hn
theorem As{p:q0G 0}(h:AllLt n p)(m r:Nat):InP n (λx=>AllLt n x.2) (kas_descPart m r p):=by
 unfold kas_descPart;refine InP.bind (Ar hn _ _ _ _ h) λa ha=>?_;by_cases hq:a.2.2>0
 ·rw[if_pos hq];show GR hn (ha.perm (y2m _ _ _ _) hn) _ _
 ·rw[if_neg hq];show GR hn ha _ _
theorem Os{p:q0G 0}(h:AllLt n p)(r:Nat):InP n (λx=>AllLt n x.2) (kas_count r p):=by
 unfold kas_count;refine InP.bind (HY hn h _ _) λa _=>?_;by_cases h1:(a == r)=true
 ·rw[if_pos h1];show h
 ·rw[if_neg h1];by_cases h2:a>1
  ·rw[if_pos h2];show⟨h _,h _,λb=>by
    cases b with
    |true=>exact h
    |false=>exact As hn (h.perm (y2m _ _ _ _) hn) _ _⟩
  ·rw[if_neg h2];show As hn h _ _
theorem Bq{p:q0G 0}(h:AllLt n p)(k:Nat):∀f l r,InP n (λ_=>True) (q0U f l r)
 |0,l,r=>trivial
 |f+1,l,r=>by
  change InP n _ (if l >= r then .ret l else .ask (p.getD k 0) (p.getD ((l+r)/2) 0) λc=>if c=true then kas_place p k f l ((l+r)/2) else q0U f ((l+r)/2+1) r)
  by_cases hl:l >= r
  ·rw[if_pos hl];show trivial
  ·rw[if_neg hl];show⟨h _,h _,λb=>by
    cases b with
    |true=>exact Bq h k f _ _
    |false=>exact Bq h k f _ _⟩
theorem Nf:∀f (p:q0G 0) k,AllLt n p->InP n (λ_=>True) (kas_bin f p k)
 |0,p,k,_=>trivial
 |f+1,p,k,h=>InP.bind (Bq hn h k _ _ _) λl _=>Nf f _ _ (h.perm (bubble_perm _ _ _) hn)
theorem Ei:InP n (λ_=>True) (kas_sort n):=by
 let h0:AllLt n (y12 (za n)):=λk=>by
  by_cases hk:k<n
  ·simp[Array.getD,hk]
  ·simp[Array.getD,hk,hn]
 unfold kas_sort;refine InP.bind (Os hn h0 n) λr hr=>?_;by_cases h:r.1<n
 ·rw[if_pos h];show Nf hn _ _ _ hr
 ·rw[if_neg h];show trivial
end
theorem Ej{α:Type}{n:Nat}{cmp:Nat->Nat->(jn Bool)->s_->Prop}{lt:Nat->Nat->Bool}{s:s_}(hc:∀i j C,i<n->j<n->C (lt i j) s->cmp i j C s){Q:α->s_->Prop}{P:α->Prop}:
  ∀{t:KasT α},InP n P t->Q (M_ t) s->t.kasWp cmp Q s
 |.ret _,_,h=>h
 |.ask i j k,⟨h1,h2,h3⟩,h=>hc i j _ h1 h2 (Ej hc (h3 _) h)
def ltX(n:Nat)(lt:Nat->Nat->Bool)(i j:Nat):Bool:=if i<n then(if j<n then lt i j else true) else false
theorem WX{lt:Nat->Nat->Bool}(tr:∀i j k,i<n->j<n->k<n->lt j i=false->lt k j=false->lt k i=false)(i j k:Nat)(h1:ltX n lt j i=false)(h2:ltX n lt k j=false):ltX n lt k i=false:=by
 unfold ltX at*;by_cases hi:i<n <;> by_cases hj:j<n <;> by_cases hk:k<n <;> simp only[hi,hj,hk,if_true,if_false]at h1 h2⊢ <;> first|exact tr i j k hi hj hk h1 h2|exact absurd h2 nofun|exact absurd h1 nofun|rfl
theorem WY{lt:Nat->Nat->Bool}(as:∀i j,i<n->j<n->lt i j=true->lt j i=false)(i j:Nat)(h:ltX n lt i j=true):ltX n lt j i=false:=by
 unfold ltX at*;by_cases hi:i<n <;> by_cases hj:j<n <;> simp only[hi,hj,if_true,if_false]at h⊢ <;> first|exact as i j hi hj h|exact absurd h nofun|rfl
theorem GS{α:Type}{n:Nat}{lt lt':Nat->Nat->Bool}(h:∀i j,i<n->j<n->lt i j=lt' i j){P:α->Prop}:∀{t:KasT α},InP n P t->M_ t=evT lt' t
 |.ret _,_=>rfl
 |.ask i j k,⟨h1,h2,h3⟩=>by
  change M_ (k (lt i j))=evT lt' (k (lt' i j))
  rw[h i j h1 h2];show GS h (h3 _)
theorem JI{lt:Nat->Nat->Bool}(tr:∀i j k,i<n->j<n->k<n->lt j i=false->lt k j=false->lt k i=false)(as:∀i j,i<n->j<n->lt i j=true->lt j i=false)(h1:1<=n):
  (M_ (kas_sort n)).toList.Perm (za n)/\(M_ (kas_sort n)).toList.Pairwise (λi j=>lt j i=false):=by
 let e:M_ (kas_sort n)=evT (ltX n lt) (kas_sort n):=GS (λi j hi hj=>by unfold ltX;rw[if_pos hi,if_pos hj]) (Ei ⋯);let⟨a,b⟩:=U1 (lt:=ltX n lt) (WX tr) (WY as) h1;rw[e];refine⟨a,b.imp_of_mem λ{i j} hi hj h=>?_⟩;let aw:i<n:=by simpa using a.mem_iff.mp hi
 let l9:j<n:=by simpa using a.mem_iff.mp hj
 unfold ltX at h;rw[if_pos l9,if_pos aw]at h;show h
variable{κ:SortKind}
theorem CZ{vs:z_ r_}{P:PySem.Fin->s_->Prop}(lt:Nat->Nat->Bool)(tr:∀i j k,i<vs.length->j<vs.length->k<vs.length->lt j i=false->lt k j=false->lt k i=false)(as:∀i j,i<vs.length->j<vs.length->lt i j=true->lt j i=false)(ho:s.heap.get? a=a_ (seqObj "list" vs.toArray n))(h64:vs.length<64)(hk:∀s':s_,(∀b o,b≠a->P2 0=a_ o->s'.heap.get? b=a_ o)->∀Q:jn SortKind,Q κ s'->C_ (keyKind' vs.toArray) Q E s')(ak:∀s':s_,(∀b o,b≠a->P2 0=a_ o->s'.heap.get? b=a_ o)->∀i j,i<vs.length->j<vs.length->∀Q:jn Bool,Q (lt i j) s'->C_ (keyLt' κ (q0R 0) (vs.getD j yp)) Q (λ_ _=>False) s')(h:∀p:z_ Nat,p.Perm (za vs.length)->p.Pairwise (λi j=>lt j i=false)->P (.done (.ret .none)) {s with heap:=sortedHeap s.heap a vs (p.map λi=>q0R 0).toArray}):
  C_ (Builtin.«list.sort» ⟨[.ref a],[]⟩) P E s:=by
 rw[list_sort_plain];let ha:a<(e_ s):=yj ho;refine xr (listItems_at ho rfl ?_);refine xr (y1M ho rfl ?_ (by rw[yn,zr];omega) (y9 _));obtain⟨e1,f9⟩:∃e1,(q0a (zh λ_=>#[])).get? a=a_ (seqObj "list" #[] e1):=⟨_,y2n ho (λ_=>#[])⟩;refine xr (seqEpoch_at f9 rfl ?_);refine xr (wpAny_newTuple ?_ (by change vs.length<=_;rw[zr];omega));refine xr (wpAny_newList ?_ (y9 _));refine y0c ?_;let k6:(((q0a (zh λ_=>#[])).push (seqObj "tuple" vs.toArray 0)).push (seqObj "list" #[] 0)).get? a=a_ (seqObj "list" #[] e1):=by rw[y1z _ _ _ (by rw[size_push',y2z];show yt (Nat.lt_succ_of_lt ha)),y1z _ _ _ (by rw[y2z];show yt ha)];show f9
 let kept:∀b o,b≠a->P2 0=a_ o->(((q0a (zh λ_=>#[])).push (seqObj "tuple" vs.toArray 0)).push (seqObj "list" #[] 0)).get? b=a_ o:=λb o hb e=>yc _ (yc _ ((y0J s.heap (zh λ_=>#[]) (y1o hb)).trans e))
 change C_ _ P E {s with heap:=((q0a (zh λ_=>#[])).push (seqObj "tuple" vs.toArray 0)).push (seqObj "list" #[] 0)}
 dsimp only;let hsz:vs.toArray.size=vs.length:=by simp
 by_cases h2:vs.toArray.size<2
 ·rw[if_pos h2,if_pos h2];refine xr (xw ?_);rw[StateT.run_pure];refine xr (xw ?_);dsimp only;refine xr (seqEpoch_at k6 rfl ?_);refine xr (y1M k6 rfl ?_ (y9 _) (hsz2:=by rw[Array.size_map];change(pairsOf vs).size<=_;rw[pairsOf_size,zr];omega));simp only[bne_self_eq_false,zb,if_false];let e:(vs.toArray.zip vs.toArray).map (·.2)=((za vs.length).map λi=>q0R 0).toArray:=by
   apply Array.toList_inj.mp;apply y0D;intro i;by_cases hi:i<vs.length
   ·simp[hi]
   ·simp[hi]
  let key:=h (za vs.length) (List.Perm.refl _) (by rw[List.pairwise_iff_getElem];intro i j hi hj bz;simp only[y1A]at hi hj;omega);rw[<-e]at key;show xw key
 ·rw[if_neg h2,if_neg h2];let dg:2<=vs.length:=⋯;refine xr (hk _ kept _ ?_);refine xr (y0R (kat_run (ks:=vs) (vs:=vs) (E:=E) (Q:=λb7 s'=>s'={s with heap:=((q0a (zh λ_=>#[])).push (seqObj "tuple" vs.toArray 0)).push (seqObj "list" #[] 0)}/\arrOf b7=(M_ (kas_sort vs.length)).map (kas_item (vs.toArray.zip vs.toArray))/\failedOf b7=b_)
   (G:=λp s'=>p=M_ (kas_sort vs.length)/\s'={s with heap:=((q0a (zh λ_=>#[])).push (seqObj "tuple" vs.toArray 0)).push (seqObj "list" #[] 0)}) rfl dg h64 (λp b7 s' _ a2 a3 a4=>⟨a4.2,by rw[a2,a4.1],a3⟩)
   (Ej (n:=vs.length) (lt:=lt) (λi j C hi hj hC=>ak _ kept i j hi hj C hC) (Ei ⋯) ⟨rfl,rfl⟩)) ?_ λ_ _ e=>e)
  rintro⟨⟨⟩,b7⟩ s' ⟨rfl,har,hf⟩;dsimp only;let jh:=kat_snds (ks:=vs) (vs:=vs) rfl har;let⟨c1,c2⟩:=JI tr as ⋯;refine xr (seqEpoch_at k6 rfl ?_);refine xr (y1M k6 rfl ?_ (y9 _) (hsz2:=by
   have:(Array.map (λx=>x.snd) (arrOf b7)).size<=yo:=by rw[jh,yn,yh,c1.length_eq,y1A,zr];omega
   first|exact this|exact Nat.le_succ_of_le this))
  rw[hf];simp only[bne_self_eq_false,zb,if_false];let key:=h _ c1 c2;rw[<-jh]at key;show xw key
def kD:Key->D
 |.inl i=>.int i
 |.inr x=>.str x
def tD(ks:z_ Key):D:=.tup (ks.map kD)
theorem U2{k:Key}(h:Rep K H (kD k) v):v=kV k:=by cases k <;> exact h
theorem U3(k:Key):Rep K H (kD k) (kV k):=by cases k <;> rfl
theorem GT{K:yb}{H:Hp}:∀{ks:z_ Key}{vs:z_ V},iQ K H (ks.map kD) vs->vs=ks.map kV
 |[],[],_=>rfl
 |k::ks,v::vs,⟨h,r⟩=>by rw[U2 h,GT (ks:=ks) r];rfl
 |[],_::_,h=>h.elim
 |_::_,[],h=>h.elim
theorem GU{K:yb}{H:Hp}:∀(ks:z_ Key),iQ K H (ks.map kD) (ks.map kV)
 |[]=>trivial
 |k::ks=>⟨U3 k,GU ks⟩
abbrev nS(h:v_):z_ r_->z_ (z_ Key)->Prop:=Paired λv ks=>∃a us,v=.ref a/\IsTup h a us.toArray/\bH (ks.map kV) us
theorem nS.kept{h:v_}(k:∀b o,h.get? b=a_ o->q0D 0=a_ o):∀{vs:z_ r_}{ae:z_ (z_ Key)},nS h vs ae->nS h' vs ae
 |_,_,.nil=>.nil
 |_,_,.cons ⟨a,us,e,⟨o,ho,r⟩,q⟩ t=>.cons ⟨a,us,e,⟨o,k a o ho,r⟩,q⟩ (nS.kept k t)
theorem nS.get{h:v_}:∀{vs:z_ r_}{ae:z_ (z_ Key)}{i:Nat},nS h vs ae->i<vs.length->∃a us,q0R 0=.ref a/\IsTup h a us.toArray/\bH ((ae.getD i []).map kV) us
 |_,_,i,.nil,hi=>by simp at hi
 |_,_,0,.cons ⟨a,us,e,p,q⟩ t,hi=>⟨a,us,k_ e,p,k_ q⟩
 |_,_,i+1,.cons _ t,hi=>by
  let⟨a,us,e,p,q⟩:=nS.get (i:=i) t (k_ hi);show⟨a,us,k_ e,p,k_ q⟩
theorem zE{X:Cx}{P1:gV 0}{σ:St}{H:Hp}{s:s_}(I:Q_ s):∀{ae:z_ (z_ Key)}{vs:z_ V}{us:z_ r_},iQ X.K H (ae.map tD) vs->bH vs us->nS s.heap us ae
 |[],[],_,_,.nil=>.nil
 |ks::ae,v::vs,_,⟨⟨a,ws,e,q,r⟩,rs⟩,.cons rv iq=>by
  subst e;cases rv
  let⟨its,r2,p,_⟩:=I.tuple q;rw[GT r]at r2;show .cons ⟨a,its,rfl,p,r2⟩ (zE I rs iq)
 |[],_::_,_,h,_=>h.elim
 |_::_,[],_,h,_=>h.elim
variable{ls:z_ Key}{us ws:z_ r_}{ae:z_ (z_ Key)}{sh:z_ Bool}
section
theorem vJ{b:Bool}{Q:jn Bool}:∀(ks ls:z_ Key)(us ws:z_ r_)(i:Nat),bH (ks.map kV) us->bH (ls.map kV) ws->shape ks=shape ls->Q (fE ks ls) s->KatLex prog w A b false Q (us.zip ws) i s
 |[],[],_,_,i,.nil,.nil,_,h=>h
 |[],_::_,_,_,_,_,_,e,_=>by cases e
 |_::_,[],_,_,_,_,_,e,_=>by cases e
 |x::ks,y::ls,_,_,i,.cons (b:=u) r1 t1,.cons (b:=v) r2 t2,e,h=>by
  let s1:kA x=kA y:=by simpa using congrArg List.head? e
  let s2:shape ks=shape ls:=by simpa using congrArg List.tail e
  rw[y2h];unfold fE at h;cases x with
  |inl a=>
   cases y with
   |inr c=>cases s1
   |inl c=>
    let⟨t,rfl⟩:=r1;let⟨t',rfl⟩:=r2;refine kat_cons (EqAt.int_int a t c t' prog w _ _ ?_);by_cases ac:a=c
    ·subst ac;rw[q0k 0]at h;rw[beq_self_eq_true];show kat_yes (vJ ks ls _ _ (i+1) t1 t2 s2 h)
    ·rw[if_neg (λz=>ac (Sum.inl.inj z))]at h;rw[beq_eq_false_iff_ne.mpr ac];refine kat_no ?_;cases hb:(b&&i == 0) with
     |true=>exact oneLt_int h
     |false=>exact kat_one _ _ (lt_int (show PySem.W.BoolBack Q (.bool (decide (a<c))) s from h))
  |inr a=>
   cases y with
   |inl c=>cases s1
   |inr c=>
    let⟨t,rfl⟩:=r1;let⟨t',rfl⟩:=r2;refine kat_cons (EqAt.str_str a t c t' prog w _ _ ?_);by_cases ac:a=c
    ·subst ac;rw[q0k 0]at h;rw[beq_self_eq_true];show kat_yes (vJ ks ls _ _ (i+1) t1 t2 s2 h)
    ·rw[if_neg (λz=>ac (Sum.inr.inj z))]at h;rw[beq_eq_false_iff_ne.mpr ac];refine kat_no ?_;cases hb:(b&&i == 0) with
     |true=>exact oneLt_str h
     |false=>exact kat_one _ _ (lt_str (show PySem.W.BoolBack Q (.bool (decide (a.cps.toList<c.cps.toList))) s from h))
theorem Ek{x y:td}{ks:z_ Key}{Q:jn Bool}(hx:IsTup s.heap x us.toArray)(hy:IsTup s.heap y ws.toArray)(r1:bH (ks.map kV) us)(r2:bH (ls.map kV) ws)(e:shape ks=shape ls)(h:Q (fE ks ls) s):
  C_ (keyLt' (tuples' b) (.ref x) (.ref y)) Q E s:=by
 let⟨ox,uj,_,n,dx⟩:=hx;let⟨oy,uz,_,m,dy⟩:=hy;refine kat_lt uj dx uz dy ?_;let l1:=r1.length;let l2:=r2.length;let l3:ks.length=ls.length:=by simpa using congrArg y2i e
 rw[yh]at l1 l2;let hf:decide (us.toArray.size<ws.toArray.size)=false:=decide_eq_false (by simp;omega);rw[hf];show vJ ks ls us ws 0 r1 r2 e h
theorem El{h:v_}{b:Bool}{sh:z_ Bool}:∀{vs:z_ r_}{ae:z_ (z_ Key)},nS h vs ae->(∀ks∈ae,shape ks=b::sh)->∃fs:z_ r_,fs.length=vs.length/\KatTups h vs fs/\∀f∈fs,typeOf f=pure (.type (if b then "int" else "str"))
 |_,_,.nil,_=>⟨[],rfl,KatTups.nil,λ_ hf=>nomatch hf⟩
 |_,_,.cons (b:=ks) ⟨a,us,e,⟨o,ho,hc,n,hd⟩,r⟩ t,hs=>by
  let⟨fs,hl,ht,hT⟩:=El t λx hx=>hs x (yd _ hx);let h0:=hs ks ye;subst e;cases ks with
  |nil=>cases h0
  |cons k ks=>
   cases r with
   |cons rk rks=>
    rename_i u us';let hk:kA k=b:=by simpa using congrArg List.head? h0
    refine⟨u::fs,by simp[hl],KatTups.cons ho hc hd (by simp) ht,λf hf=>?_⟩;rcases yr.mp hf with rfl|hf
    ·cases k with
     |inl i=>let⟨tk,rfl⟩:=rk;subst hk;rfl
     |inr x=>let⟨tk,rfl⟩:=rk;subst hk;rfl
    ·show hT f hf
theorem GV{vs:z_ r_}{Q:jn SortKind}(t:nS s.heap vs ae)(hs:∀ks∈ae,shape ks=b::sh)(h0:0<vs.length)(h:Q (tuples' true) s):C_ (keyKind' vs.toArray) Q E s:=by
 let⟨fs,hl,ht,hT⟩:=El t hs;refine kat_kind (T:=.type (if b then "int" else "str")) ht ⋯ (λv hv=>by rw[hT v hv];show Looks.now) (by cases b <;> rfl) ?_;have:((y1H (if b then "int" else "str")) != y1H "tuple")=true:=by cases b <;> rfl
 rw[this];show h
theorem Br{P:PySem.Fin->s_->Prop}(ho:s.heap.get? a=a_ (seqObj "list" ([]:z_ r_).toArray n))(h:P (.done (.ret .none)) {s with heap:=sortedHeap s.heap a [] #[]}):C_ (Builtin.«list.sort» ⟨[.ref a],[]⟩) P E s:=by
 rw[list_sort_plain];refine xr (listItems_at ho rfl ?_);refine xr (y1M ho rfl ?_ (y9 _) (y9 _));let ha:a<(e_ s):=yj ho;obtain⟨e1,f9⟩:∃e1,(q0a (zh λ_=>#[])).get? a=a_ (seqObj "list" #[] e1):=⟨_,y2n ho (λ_=>#[])⟩;refine xr (seqEpoch_at f9 rfl ?_);refine xr (wpAny_newTuple ?_ (y9 _));refine xr (wpAny_newList ?_ (y9 _));refine y0c ?_;let k6:(((q0a (zh λ_=>#[])).push (seqObj "tuple" ([]:z_ r_).toArray 0)).push (seqObj "list" #[] 0)).get? a=a_ (seqObj "list" #[] e1):=by rw[y1z _ _ _ (by rw[size_push',y2z];show yt (Nat.lt_succ_of_lt ha)),y1z _ _ _ (by rw[y2z];show yt ha)];show f9
 change C_ _ P E {s with heap:=((q0a (zh λ_=>#[])).push (seqObj "tuple" ([]:z_ r_).toArray 0)).push (seqObj "list" #[] 0)}
 dsimp only;rw[if_pos nofun,if_pos nofun];refine xr (xw ?_);rw[StateT.run_pure];refine xr (xw ?_);dsimp only;refine xr (seqEpoch_at k6 rfl ?_);let e0:(Array.map (λx=>x.snd) (arrOf (SortSt.mk' general' ((#[]:q0l 0).zip (#[]:q0l 0)) #[] 7 b_)))=(#[]:q0l 0):=by
  change Array.map (λx=>x.snd) ((#[]:q0l 0).zip (#[]:q0l 0))=#[]
  simp
 refine xr (y1M k6 rfl ?_ (y9 _) (hsz2:=by
  let e1:(Array.map (λx=>x.snd) (arrOf (SortSt.mk' general' ((#[]:q0l 0).zip (#[]:q0l 0)) #[] 7 b_))).size=0:=by rw[e0];rfl
  first|exact ze (Nat.le_of_eq e1) (y9 _)|(show _<=_;omega)))
 simp only[bne_self_eq_false,zb,if_false];refine xw ?_
 change P (.done (.ret .none)) {s with heap:=(((q0a (zh λx=>#[])).push (seqObj "tuple" ([]:z_ r_).toArray 0)).push (seqObj "list" #[] 0)).update a (zh λx=>Array.map (λx=>x.snd) (arrOf (SortSt.mk' general' ((#[]:q0l 0).zip (#[]:q0l 0)) #[] 7 b_)))}
 rw[e0];show h
theorem Ot{v:r_}(xj:z_ r_->s_->Prop)(hc:q1q (collect v) xj E s)(h:∀vs s1,xj vs s1->vs.length<64/\∃lt:Nat->Nat->Bool,(∀i j k,i<vs.length->j<vs.length->k<vs.length->lt j i=false->lt k j=false->lt k i=false)/\(∀i j,i<vs.length->j<vs.length->lt i j=true->lt j i=false)/\
   (∀(A':u_)(s':s_),(∀b o,s1.heap.get? b=a_ o->s'.heap.get? b=a_ o)->0<vs.length->∀(Q:jn SortKind) E',Q κ s'->l_ prog w A' (keyKind' vs.toArray) Q E' s')/\
   (∀(s':s_),(∀b o,s1.heap.get? b=a_ o->s'.heap.get? b=a_ o)->∀i j,i<vs.length->j<vs.length->∀Q:jn Bool,Q (lt i j) s'->l_ prog w A.in1.in1 (keyLt' κ (q0R 0) (vs.getD j yp)) Q (λ_ _=>False) s')/\
   ∀(p:z_ Nat)(h':v_)(e:Nat),p.Perm (za vs.length)->p.Pairwise (λi j=>lt j i=false)->(∀b o,s1.heap.get? b=a_ o->q0D 0=a_ o)->h'.get? (e_ s1)=a_ (seqObj "list" (p.map λi=>q0R 0).toArray e)->Q (.ref (e_ s1)) {s1 with heap:=h'}):
  C_ (call (.builtin "sorted") [v]) Q E s:=by
 refine Calls.call_function_entry kind_sorted plain_sorted entry_sorted (args_sorted1 _) ?_;unfold Builtin.«sorted»;refine xr (m:=checkCount "sorted" 1 1 _) (xw ?_);refine xr (y0R hc (λvs s1 c=>?_) λ_ _ x=>x);let⟨h64,lt,tr,as,hk,ak,fin⟩:=h vs s1 c;refine xr (wpAny_newList ?_ (by rw[zr];omega));let fu:(s1.heap.push (seqObj "list" vs.toArray 0)).get? (e_ s1)=a_ (seqObj "list" vs.toArray 0):=q0O 0;let keep:∀b o,s1.heap.get? b=a_ o->b≠(e_ s1)/\(s1.heap.push (seqObj "list" vs.toArray 0)).get? b=a_ o:=λb o q=>⟨yt (yj q),yc _ q⟩
 change F_ _ _ _ {s1 with heap:=s1.heap.push (seqObj "list" vs.toArray 0)}
 refine xr (y0c (zm slot_list_sort ⟨_,fu,rfl⟩ entry_list_sort ?_ (args_list_sort _)));let tree:l_ prog w A.in1.in1 (Builtin.«list.sort» ⟨[.ref (e_ s1)],[]⟩) (λr s'=>∃p:z_ Nat,r=.done (.ret .none)/\p.Perm (za vs.length)/\p.Pairwise (λi j=>lt j i=false)/\s'={s1 with heap:=sortedHeap (s1.heap.push (seqObj "list" vs.toArray 0)) (e_ s1) vs (p.map λi=>q0R 0).toArray}) E {s1 with heap:=s1.heap.push (seqObj "list" vs.toArray 0)}:=by
  by_cases h0:0<vs.length
  ·show CZ (κ:=κ) lt tr as fu h64 (λs' kp Q hq=>hk _ s' (λb o e=>kp b o (keep b o e).1 (keep b o e).2) h0 Q _ hq) (λs' kp i j hi hj Q hq=>ak s' (λb o e=>kp b o (keep b o e).1 (keep b o e).2) i j hi hj Q hq) λp a1 a2=>⟨p,rfl,a1,a2,rfl⟩
  ·let e0:vs=[]:=List.length_eq_zero_iff.mp ⋯;subst e0;show Br fu ⟨[],rfl,List.Perm.refl _,y2H,rfl⟩
 refine y0R tree (λr s' hr=>?_) λ_ _ x=>x;let⟨p,rfl,a1,a2,rfl⟩:=hr;refine⟨_,rfl,xw ⟨_,rfl,?_⟩⟩;let⟨e,he⟩:=sortedHeap_at (h:=s1.heap.push (seqObj "list" vs.toArray 0)) (out:=(p.map λi=>q0R 0).toArray) fu;show fin p _ e a1 a2 (λb o q=>(sortedHeap_old (keep b o q).1 (by rw[size_push'];show Nat.lt_succ_of_lt (yj q))).trans (keep b o q).2) he
end
def Bs(H:Hp)(ps:z_ (td×z_ V)):Hp:=λb=>match ps.lookup b with
 |some xs=>a_ (.tup xs)
 |none=>H b
theorem CI{κ:Type}{x:td}{k:κ}:∀{l:z_ (td×κ)},l.lookup x=a_ k->(x,k)∈l
 |[],h=>by simp at h
 |(n,v)::r,h=>by
  by_cases hx:x=n
  ·subst hx;simp only[y8,beq_self_eq_true]at h;cases h
   show ye
  ·have:(x == n)=false:=by simpa using hx
   simp only[y8,this]at h;show yd _ (CI h)
theorem Au{κ:Type}{x:td}:∀{l:z_ (td×κ)},(∀p∈l,p.1≠x)->l.lookup x=b_
 |[],_=>rfl
 |(n,v)::r,h=>by
  let hx:(x == n)=false:=by have:=h (n,v) ye;simpa using λe:x=n=>this e.symm
  simp only[y8,hx];show Au λp hp=>h p (yd _ hp)
theorem JJ{ps:z_ (td×z_ V)}{b:td}(h:∀p∈ps,p.1≠b):Bs H ps b=H b:=by unfold Bs;rw[Au h]
theorem Em{H:Hp}:∀{ps:z_ (td×z_ V)}{j:Nat}{a:td}{xs:z_ V},(ps.map (·.1)).Nodup->ps[j]?=a_ (a,xs)->Bs H ps a=a_ (.tup xs)
 |[],_,_,_,_,h=>by simp at h
 |(n,v)::r,0,a,xs,_,h=>by simp at h;let⟨rfl,rfl⟩:=h;unfold Bs;simp[y8]
 |(n,v)::r,j+1,a,xs,nd,h=>by
  let nd':(n::r.map (·.1)).Nodup:=nd;let⟨n1,n2⟩:=y1g.mp nd';let h':r[j]?=a_ (a,xs):=by simpa using h
  let ne:(a == n)=false:=by have:a∈r.map (·.1):=y6.mpr ⟨_,zi h',rfl⟩;simpa using λe:a=n=>n1 (e▸this)
  let ih:=Em (H:=H) n2 h';unfold Bs at ih⊢;simp only[y8,ne];show ih
theorem Inv.laidT{ps:z_ (td×z_ V)}(I:Q_ s)(k:∀b u,P2 0=a_ u->q0D 0=a_ u)(hp:∀p∈ps,(e_ s)<=p.1)(new:∀p∈ps,p.2.length<=yo/\∃its:z_ r_,bH p.2 its/\Bl h' p.1 its.toArray):
  j_ (Bs H ps) {s with heap:=h',toks:=t'}:=by
 let nb:∀b,b<(e_ s)->∀p∈ps,p.1≠b:=λb hb p fg e=>y0P _ (y3 hb (e▸hp p fg));let old:∀b,b<(e_ s)->Bs H ps b=H b:=λb hb=>JJ (nb b hb);refine I.un ⟨λb u q _ _ _=>k b u q,λb u q _ _ _=>⟨u.slots,k b u q⟩,λb u q n _=>(old b (yj q)).trans n,λb u q _=>⟨u,k b u q⟩,λb xs q=>(old b (I.hok.lt q)).trans q,λb u xs q=>(old b (I.hok.lt q)).trans q,λb ps' q=>⟨#[],by rw[old b (I.hok.lt q),q];simp⟩⟩ ?_;intro b u e;unfold Bs at e;cases q:ps.lookup b with
 |some xs=>
  rw[q]at e;cases e
  let⟨z,its,r,p⟩:=new _ (CI q);show⟨z,its,r,p⟩
 |none=>rw[q]at e;let hb:=I.hok.lt e;show(I.hok b u e).stay (λc v _ q=>k c v q) (λc q=>(old c (I.hok.lt q)).trans q) λc xs q=>(old c (I.hok.lt q)).trans q
theorem Bt(I:Q_ s){ps:z_ (td×z_ V)}(hp:∀p∈ps,(e_ s)<=p.1):E8 H (Bs H ps):=λb o e=>by let nb:∀p∈ps,p.1≠b:=λp fg z=>y0P _ (y3 (I.hok.lt e) (z▸hp p fg));rw[JJ nb];show e
def WZ(v d:td):HO:=.ext λh=>h.IsItemsView v d
def HZ(K:yb)(ae:z_ (z_ Key))(Q:VK)(H1:Hp):Prop:=∀(l:td)(gn:z_ (z_ Key))(fc:z_ V),H1 l=b_->gn.Perm ae->gn.Pairwise (λa b=>fE b a=false)->iQ K H1 (gn.map tD) fc->Q (.ref l) (upd H1 l (.lst fc))
def X0(K:yb):z_ V->Hp->VK->Prop:=λxs H Q=>∃(p:td)(ae:z_ (z_ Key))(sh:z_ Bool)(b:Bool),xs=[.ref p]/\ae.length<64/\(∀ks∈ae,shape ks=b::sh)/\
 ((∃vs,q1y p vs/\iQ K H (ae.map tD) vs/\HZ K ae Q H)\/
  (∃d kvs,H p=a_ (WZ p d)/\H d=a_ (.dK kvs)/\kvs.map (λkv=>[kV kv.1,kv.2])=ae.map (λks=>ks.map kV)/\∀H1,E8 H H1->HZ K ae Q H1))
theorem Bu{α:Type}{xs:z_ α}{d:α}{p:z_ Nat}(h:p.Perm (za xs.length)):(p.map λi=>xs.getD i d).Perm xs:=by
 let e:(za xs.length).map (λi=>xs.getD i d)=xs:=by
  apply y0D;intro i;by_cases hi:i<xs.length
  ·simp[hi]
  ·simp[hi]
 have:=h.map λi=>xs.getD i d
 rwa[e]at this
theorem GW{K:yb}{H:Hp}{ds:z_ D}{vs:z_ V}(r:iQ K H ds vs):∀{p:z_ Nat},(∀i∈p,i<ds.length)->iQ K H (p.map λi=>ds.getD i .non) (p.map λi=>vs.getD i .non)
 |[],_=>trivial
 |i::p,h=>by
  let hi:=h i ye;let g:ds[i]?=a_ (ds.getD i .non):=by simp[hi]
  let⟨v,hv,hr⟩:=r.at g;let e:vs.getD i .non=v:=by simp[y0F,hv]
  refine⟨?_,GW r λj hj=>h j (yd _ hj)⟩
  change Rep K H (ds.getD i .non) (vs.getD i .non)
  rw[e];show hr
theorem xO{vs:z_ V}{us:z_ r_}(r:bH vs us):∀{p:z_ Nat},(∀i∈p,i<vs.length)->bH (p.map λi=>vs.getD i .non) (p.map λi=>us.getD i yp)
 |[],_=>.nil
 |i::p,h=>by
  let hi:=h i ye;let g:vs[i]?=a_ (vs.getD i .non):=by simp[hi]
  let⟨u,hu,hr⟩:=r.get g;let e:us.getD i yp=u:=by simp[y0F,hu]
  refine .cons ?_ (xO r λj hj=>h j (yd _ hj))
  change RelV (vs.getD i .non) (us.getD i yp)
  rw[e];show hr
theorem I0(hc:X.calm=true)(K:yb)(hK:X.K=K):gQ X (.builtin "sorted") (X0 K):=by
 subst hK;intro P1 s σ H xs us Q I r h;let⟨p,ae,sh,b,rfl,h64,hsh,h⟩:=h;let⟨u,rfl,ru⟩:=vals1 r;cases ru
 let bg:∀i,i<ae.length->shape (ae.getD i [])=b::sh:=λi hi=>by
  have:ae.getD i []=ae[i]:=by simp[hi]
  rw[this];show hsh _ (zp hi)
 refine Ot (κ:=tuples' true) (λits s1=>∃H1 vs,j_ H1 s1/\bH vs its/\iQ X.K H1 (ae.map tD) vs/\HZ X.K ae Q H1) ?col ?fin
 case fin=>
  rintro its s1 ⟨H1,vs,I1,rv,rr,fin⟩;let l1:=rv.length;let l2:ae.length=vs.length:=by simpa using rr.length
  let hlen:its.length=ae.length:=⋯;let tk:=zE I1 rr rv;refine⟨⋯,λi j=>fE (ae.getD i []) (ae.getD j []),λi j k hi hj hk h1 h2=>?_,λi j _ _ h=>Ap h,λA' s' kp h0 Q' E' hq=>?_,λs' kp i j hi hj Q' hq=>?_,λq h' e a1 a2 kp he=>?_⟩
  ·show xK ((bg i ⋯).trans (bg j ⋯).symm) ((bg j ⋯).trans (bg k ⋯).symm) h1 h2
  ·show GV (tk.kept kp) hsh h0 hq
  ·let⟨a,ua,e1,p1,r1⟩:=(tk.kept kp).get hi;let⟨c,uc,e2,p2,r2⟩:=(tk.kept kp).get hj;rw[e1,e2];show Ek p1 p2 r1 r2 ((bg i ⋯).trans (bg j ⋯).symm) hq
  ·let ay:∀i∈q,i<ae.length:=λi hi=>by have:=a1.mem_iff.mp hi;rw[List.mem_range]at this;omega
   rw[hlen]at a1;let w8:=GW rr (p:=q) (λi hi=>by rw[yh];show ay i hi);let em:(q.map λi=>(ae.map tD).getD i .non)=(q.map λi=>ae.getD i []).map tD:=by rw[z7];apply y0B;intro i hi;have:=ay i hi;simp[this]
   rw[em]at w8;refine⟨.ref (e_ s1),_,I1.laid (t':=s1.toks) (o:=.lst (q.map λi=>vs.getD i .non)) kp (yg _) ?_,rfl,fin _ _ _ I1.fresh (Bu a1) ?_ w8⟩
   ·refine⟨?_,q.map (λi=>its.getD i yp),e,xO rv (λi hi=>by have:=ay i hi;omega),he⟩;rw[yh,a1.length_eq,y1A,zr];omega
   ·rw[y0v];show a2
 case col=>
  rcases h with⟨vs,hq,rr,fin⟩|⟨d,kvs,hv,hd,hk,fin⟩
  ·let⟨its,rv,pl,hz⟩:=I.list hq;refine collect_list pl.isList ?_ (by have:=rv.length;omega);show⟨H,vs,I.kept (t':=s.toks) λb o e=>by
    let ak:b<(e_ s):=yj e
    first
     |(rw[Heap.get?_update_ne _ _ _ _ (yt ak),y1z _ _ _ (yt ak)];show e)
     |exact yc _ e,rv,rr,fin⟩
  ·let⟨gj,_,_⟩:=I.hok p _ hv;let⟨z,y,vs,j0,D⟩:=I.hok d _ hd;let⟨ep,D'⟩:=D.dictAt;let lkv:kvs.length=vs.length:=KV.length j0;let lks:kvs.length=ae.length:=by simpa using congrArg y2i hk
   refine kdx_collect (A:=X.A.in1) (knd:=cS X.prog X.w) (kvs:=vs) (ep:=ep) (I.ok.hd hc) gj D' (by rw[zr];omega) λh' tk as kp hl hG=>?_
   -- the new tuples
   letI ps:z_ (td×z_ V):=as.zip (ae.map λks=>ks.map kV);let k8:ps.map (·.1)=as:=by
    change(as.zip _).map y1s=as
    rw[List.map_fst_zip];rw[yh];omega
   let ar:∀q∈ps,(e_ s)<=q.1:=λq hq=>by
    have:q.1∈as:=by rw[<-k8];show y6.mpr ⟨q,hq,rfl⟩
    show y0G (hG.above _ this)
   let nd:(ps.map (·.1)).Nodup:=by rw[k8];show hG.rise.imp λh=>yt h
   let each:∀(j:Nat)(a:td),as[j]?=a_ a->∃ks us,ae[j]?=a_ ks/\ps[j]?=a_ (a,ks.map kV)/\bH (ks.map kV) us/\Bl h' a us.toArray/\ks.length<=2:=λj a ha=>by
    let⟨key,kk,x,e1,e2,e3⟩:=hG.pairs j a ha;let hj:j<ae.length:=by have:=(xt.mp ha).1;omega
    let hjk:j<kvs.length:=⋯;let g1:ae[j]?=a_ ae[j]:=by simp[hj]
    let g2:kvs[j]?=a_ kvs[j]:=by simp[hjk]
    let g3:(ae[j]).map kV=[kV kvs[j].1,kvs[j].2]:=by have:=congrArg (λl=>l[j]?) hk;simp[g1,g2]at this;show this.symm
    -- the raw pair
    let rr:∀{kvs:z_ (Key×V)}{vs:z_ (Key×r_)}{j:Nat}{kv:Key×V}{w':Key×r_},KV kvs vs->kvs[j]?=a_ kv->vs[j]?=a_ w'->kv.1=w'.1/\RelV kv.2 w'.2:=by
     intro kvs vs j kv w' h
     induction h generalizing j with
     |nil=>intro h1;simp at h1
     |cons r t ih=>
      intro h1 h2;cases j with
      |zero=>simp at h1 h2;subst h1 h2;show r
      |succ j=>exact ih (k_ h1) (k_ h2)
    let⟨q1,q2⟩:=rr j0 g2 e1;refine⟨ae[j],[key,x],g1,?_,?_,⟨_,e3,rfl,⟨0,rfl⟩,rfl⟩,?_⟩
    ·change(as.zip _)[j]?=_
     rw[y1d];show⟨ha,by simp[g1]⟩
    ·rw[g3];refine .cons ?_ (.cons q2 .nil);rw[q1];let e2':Ct kk key=true:=e2;rcases dU e2' with⟨i,t,rfl,rfl⟩|⟨y,t,rfl,rfl⟩
     ·show⟨t,rfl⟩
     ·show⟨t,rfl⟩
    ·have:=congrArg y2i g3;simp at this;omega
   let I1:j_ (Bs H ps) {s with heap:=h',toks:=tk}:=I.laidT kp ar λq hq=>by
    let⟨j,hj⟩:=y1L.mp hq;let ha:as[j]?=a_ q.1:=by have:=congrArg (λl=>l[j]?) k8;simp[hj]at this;show this.symm
    let⟨ks,us,_,e2,e3,e4,e5⟩:=each j q.1 ha;rw[hj]at e2;let eq2:q.2=ks.map kV:=by have:=yx e2;rw[this]
    refine⟨?_,us,by rw[eq2];show e3,e4⟩;rw[eq2,yh,zr];omega
   refine⟨Bs H ps,as.map V.ref,I1,?_,?_,fin _ (Bt I ar)⟩
   ·have:∀l:z_ td,bH (l.map V.ref) (l.map y4):=λl=>by
     induction l with
     |nil=>exact .nil
     |cons a l ih=>exact .cons rfl ih
    show this as
   ·let gen:∀(l:z_ td)(ls:z_ (z_ Key)),l.length=ls.length->(∀(j:Nat) a ks,l[j]?=a_ a->ls[j]?=a_ ks->Bs H ps a=a_ (.tup (ks.map kV)))->iQ X.K (Bs H ps) (ls.map tD) (l.map V.ref):=by
     intro l
     induction l with
     |nil=>
      intro ls hl _;cases ls with
      |nil=>exact trivial
      |cons _ _=>cases hl
     |cons a l ih=>
      intro ls hl hh;cases ls with
      |nil=>cases hl
      |cons ks ls=>refine⟨⟨a,_,rfl,SqT.of (hh 0 a ks rfl rfl),GU ks⟩,ih ls (k_ hl) λj a' cw h1 h2=>hh (j+1) a' cw (k_ h1) (k_ h2)⟩
    refine gen as ae ⋯ λj a ks h1 h2=>?_;let⟨cw,us,e1,e2,_⟩:=each j a h1;rw[h2]at e1;cases e1
    show Em nd e2
variable{dc:td}{ep:Nat}{oc:Obj}{it:td}
section
variable{v:td}{es:q1m 0}
theorem Ou(hv:s.heap.IsValuesView v dc)(h1:q0y 0=a_ oc)(h2:oc.data=.dict es ep)(q:Q (.ref (e_ s)) {s with heap:=s.heap.push {cls:=.type "dict_valueiterator",data:=.fields #[.ref dc,.int 0 0,.int es.size 0,.int ep 0]} }):C_ (pyIter (.ref v)) Q E s:=by
 let⟨ov,g1,g2,g3⟩:=id hv;refine wpAny_pyIter_slot hv.typeIs F.slot_dict_values_iter (zm F.slot_dict_values_iter hv.typeIs F.entry_dict_values_iter (show F_ (Builtin.«dict_values.__iter__» _) _ _ _ from ?_) (F.args_dict_values_iter_1 _))
 unfold Builtin.«dict_values.__iter__»;refine xr (xw (xr ?_));unfold Builtin.Dict_items.dictOf;refine xr (y1D g1 g3 (x:=.ref dc) rfl (xw (xr ?_)));unfold Builtin.Dict_items.newIterator;refine xr (y0l h1 h2 (xr (y0t h1 h2 ?_)));rw[show zl "dict_valueiterator" = false by decide];simp only[zb,if_false];refine zd (xw ⟨_,rfl,"dict_valueiterator",_,⟨_,q0O 0,rfl⟩,y0H.lookup,(by simpa[rawInt] using q)⟩)
theorem Qr{Q:A_ r_->s_->Prop}(hI:s.heap.IsValIter it dc i es.size ep)(h1:q0y 0=a_ oc)(h2:oc.data=.dict es ep)(ak:i<es.size)(q:∀h',h'.IsValIter it dc (i+1) es.size ep->y1w it s.heap h'->Q (a_ es[i].val) {s with heap:=h'}):C_ (pyNext (.ref it)) Q E s:=by
 let⟨oi,g1,g2,g3⟩:=id hI;unfold pyNext;refine xr (y1N (z9 (name:=yi "__next__") hI.typeIs y0H (zm y0H hI.typeIs F.entry_dict_valueiterator_next ?_ (F.args_dict_valueiterator_next_1 _))));refine xr (xw (xr (xr ?_)))
 first|refine xr (y1p hI.typeIs (xw ?_))|refine xr (y1W hI.typeIs (xw ?_))
 refine xr (y1R g1 g3 ?_);rw[show zl "dict_valueiterator" = false by decide];simp only[zb,if_false]
 change F_ (if(y4 dc == yp)=true then _ else _) _ _ s
 rw[if_neg (show ¬ ((y4 dc == yp)=true) from yl)]
 refine xr (xw (xr (y0l h1 h2 ?_)));rw[if_neg (show ¬ _ by simp)];refine xr (xw (xr (y0t h1 h2 ?_)));rw[if_neg (show ¬ _ by simp)];refine xw ?_;simp only[show ¬ ((i:Int)<0) by omega,if_false,y1a,y0N ak];refine xr ?_
 first|refine xr (y1p hI.typeIs (xw ?_))|refine xr (y1W hI.typeIs (xw ?_))
 refine xr (wpAny_isOneOf_valiter hI.typeIs (show F_ (setField (.ref it) 1 (rawInt ((i:Int)+1)) >>= _) _ _ s from xr (y1e g1 g3 (by simp) ?_)))
 let fh:(q0r (y0p (·.setIfInBounds 1 (rawInt ((i:Int)+1))))).IsValIter it dc (i+1) es.size ep:=⟨_,y0a _ g1 (y1i (y01 g3 _)),(Obj.cls_mapFields ..).trans g2,by rw[y01 g3];simp[rawInt]⟩;let iy:({s with heap:=q0r (y0p (·.setIfInBounds 1 (rawInt ((i:Int)+1))))}:s_).TypeIs (.ref it) "dict_valueiterator" := fh.typeIs;refine xr (y0c (xr (wpAny_isOneOf_valiter iy (xr (wpAny_isOneOf_valiter iy ?_)))))
 change F_ (pure es[i].val) _ _ _
 show xw (xw ⟨_,rfl,xw (q _ fh (zk ..))⟩)
theorem Qs{Q:A_ r_->s_->Prop}(hh:A.handled=b_)(hI:s.heap.IsValIter it dc i es.size ep)(h1:q0y 0=a_ oc)(h2:oc.data=.dict es ep)(ir:es.size<=i)(q:∀h',Heap.ExtBut it s.heap h'->Q b_ {s with heap:=h'}):C_ (pyNext (.ref it)) Q E s:=by
 let⟨oi,g1,g2,g3⟩:=id hI;unfold pyNext;refine xr (y1N (z9 (name:=yi "__next__") hI.typeIs y0H (zm y0H hI.typeIs F.entry_dict_valueiterator_next ?_ (F.args_dict_valueiterator_next_1 _))));refine xr (xw (xr (xr ?_)))
 first|refine xr (y1p hI.typeIs (xw ?_))|refine xr (y1W hI.typeIs (xw ?_))
 refine xr (y1R g1 g3 ?_);rw[show zl "dict_valueiterator" = false by decide];simp only[zb,if_false]
 change F_ (if(y4 dc == yp)=true then _ else _) _ _ s
 rw[if_neg (show ¬ ((y4 dc == yp)=true) from yl)]
 refine xr (xw (xr (y0l h1 h2 ?_)));rw[if_neg (show ¬ _ by simp)];refine xr (xw (xr (y0t h1 h2 ?_)));rw[if_neg (show ¬ _ by simp)];refine xw ?_;simp only[show ¬ ((i:Int)<0) by omega,if_false,y1a,y0h ir];refine xr ?_
 first|refine xr (y1p hI.typeIs (xw ?_))|refine xr (y1W hI.typeIs (xw ?_))
 refine(show F_ (setField (.ref it) 0 .none >>= _) _ _ s from xr (y1e g1 g3 (by simp) ?_))
 refine(show F_ (newExc (.type "StopIteration") [] >>= _) _ _ _ from xr ?_);simp only[newExc,newTuple]
 refine xr (zd (xr (m:=y1S _ _) (wpAny_of_eq (a:=yp) (by first|rfl|(simp only[y1S];rfl)) (zd ?_ (by size_fits)))) (by size_fits))
 simp only[raiseNew];refine xr (wpAny_handled ?_);rw[show A.in1.handled=b_ from hh]
 refine xr (xw (wpAny_throw ?_));refine xr (y2b (T:="StopIteration") (b:=true) ⟨_,q0O 0,rfl⟩ isSubtype_stop ?_);show xw (q _ (((zk ..).extBut.push _).push _))
theorem LL(hh:A.handled=b_)(I dc:td)(cq:dc≠I)(oc:Obj)(es:q1m 0)(ep:Nat)(h2:oc.data=.dict es ep):
  Walks prog w A I [I,dc] [I] es.size (λi v=>∃e,es[i]?=a_ e/\v=e.val) (λi h=>h.IsValIter I dc i es.size ep/\h.get? dc=a_ oc) where
 sub:=λb hb=>by rw[y0.mp hb];show ye
 frame:=λ_ _ _ st hk=>⟨let ⟨o,e,r⟩:=st.1;⟨o,hk I ye o e,r⟩,hk dc (yd _ ye) _ st.2⟩
 item:=λi s Q E hi st hQ=>Qr st.1 st.2 h2 hi λh' k7 d0=>hQ _ h' s.toks ⟨es[i],by simp[hi],rfl⟩ ⟨k7,(d0.2 dc cq).trans st.2⟩ λb o hb e=>(d0.2 b λz=>hb (by rw[z];show ye)).trans e
 done:=λs Q E st hQ=>Qs hh st.1 st.2 h2 (yg _) λh' e8=>hQ h' s.toks λb o hb e=>e8 b o (λz=>hb (by rw[z];show ye)) e
 self:=λ_ _ _ _ st hQ=>wpAny_pyIter_valiter st.1 hQ
theorem Qt{r:td}(h2:oc.data=.dict es ep):PySem.W.KdlSrc prog w "dict_values" r dc es.size (λi v=>∃e,es[i]?=a_ e/\v=e.val) (λh=>h.IsValuesView r dc/\h.get? dc=a_ oc) where
 type:=λ_ hm=>hm.1.typeIs
 there:=λ_ hm=>⟨let ⟨_,ho,_⟩:=hm.1;yj ho,yj hm.2⟩
 keep:=λ_ _ hm hk=>⟨let ⟨o,ho,x⟩:=hm.1;⟨o,hk r (.inl rfl) o ho,x⟩,hk dc (.inr rfl) _ hm.2⟩
 notList:=by decide
 notTuple:=by decide
 hint:=λ_ _ _ _ hm hq=>PySem.W.kdl_hint_values hm.1.typeIs hq
 iter:=λ_ _ hh hm=>⟨_,_,(λ_ _ hq=>Ou hm.1 hm.2 h2 hq),LL hh _ dc (yt (yj hm.2)) oc es ep h2,⟨⟨_,q0O 0,rfl,rfl⟩,yc _ hm.2⟩⟩
theorem Ia(dc:td)(hd:(dc == y0o)=false):MeetsIn prog w (Builtin.«dict.values» ⟨[.ref dc],[]⟩) (λ_ R s=>s.TypeIs (.ref dc) "dict" /\
   R (.ok (.ret (.ref (e_ s)))) {s with heap:=s.heap.push {cls:=.type "dict_values",data:=.fields #[.ref dc]} }):=
 .of_wp λA R s ⟨hT,h⟩=>by
  refine xr ?_;unfold Builtin.Dict.noArgs;refine xr (wpAny_notOrdered_dict hT (show F_ (pure dc) _ _ s from xw (show F_ (y1j dc >>= _) _ _ s from ?_)))
  unfold y1j;rw[if_neg (show ¬ _ from by rw[hd];decide)]
  refine xr (xw (xr (zd (xw ⟨_,rfl,h⟩))))
end
namespace FR
theorem nolen_lr:typeLookup (.type "list_reverseiterator") "__len__" = pure b_:=by rw[typeLookup_type,builtinLookup_eq_fast];kernel_rfl
theorem hint_lr:typeLookup (.type "list_reverseiterator") "__length_hint__" = pure (a_ (.builtin "list_reverseiterator.__length_hint__")):=by rw[typeLookup_type,builtinLookup_eq_fast];kernel_rfl
end FR
abbrev Qu(items:q0l 0)(i:Nat)(v:r_):Prop:=items[items.size-1-i]?=a_ v
theorem Qv{Q:jn Bool}(hT:s.TypeIs (.ref it) "list_reverseiterator")(h:Q false s):C_ (Builtin.List.listLengthHint (.ref it)) Q E s:=by
 unfold Builtin.List.listLengthHint;refine xr (y0M hT FR.nolen_lr ?_)
 change wpAny _ A (specialOf (y4 it) (yi "__length_hint__") >>= _) _ _ _
 refine xr (y0M hT FR.hint_lr ?_);generalize v7:("list_reverseiterator.__length_hint__" : String)=id0
 wp_delta
 rw[show splitId id0=a_ ("list_reverseiterator","__length_hint__") from by subst v7;decide +kernel]
 subst v7;refine xr (y2b (b:=true) hT (by rw[isSubtype_type];kernel_rfl) ?_);show xw h
variable{items:q0l 0}{l:td}
theorem LM(hh:A.handled=b_)(hit:s.heap.IsRevIter it l ((items.size:Int)-1))(hl:s.heap.IsList l items)(cq:l≠it)(S:td)(xa:S≠it)(rq:S≠l)(res:r_)(c₀:Nat)(hS:s.heap.get? S=a_ {cls:=.type "list",data:=.seq #[] c₀})(hR:∀h' tk aj c',(∀b o,b≠S->b≠it->P2 0=a_ o->q0D 0=a_ o)->h'.get? S=a_ {cls:=.type "list",dict:=b_,data:=.seq aj c',slots:=#[]}->ItemsOf (Qu items) aj items.size->R (.ok (.ret res)) {s with heap:=h',toks:=tk})(hn:items.size<=yo):
  q1q (y0m (.ref S) (.ref it) res)
   (λfin s'=>match fin with|.done f=>R (.ok f) s'|.again c'=>c'.quiet=true/\codeAny (model prog w) A c' R s') (λe s'=>R (.error e) s') s:=by
 let hSf:S∉[it,l]:=by simp only[yr,List.not_mem_nil,or_false,not_or];show⟨xa,rq⟩
 let W:=Walks.listRev (prog:=prog) (w:=w) (A:=A.in1) hh it l cq items;let xm:0<=items.size/\s.heap.IsRevIter it l ((items.size:Int)-1-((0:Nat):Int))/\s.heap.IsList l items:=⟨y9 _,by
  let e:(items.size:Int)-1-((0:Nat):Int)=(items.size:Int)-1:=⋯;rw[e];show hit,hl⟩
 unfold y0m;refine xr (wpAny_typeOf (T:="list_reverseiterator") hit.typeIs ?_);let h1:y1X (.ref S) (.ref it)=false:=by simp[y1X,xa]
 let h2:(y1H "list_reverseiterator" == y1H "list")=false:=by decide
 let h3:(y1H "list_reverseiterator" == y1H "tuple")=false:=by decide
 simp only[h1,h2,h3,Bool.or_false,zb,if_false];refine xr (W.self _ _ _ _ xm ?_);refine xr (y0c (Qv hit.typeIs ?_));rw[V_ 0];refine xw ⟨plainId_quiet y0O _,codeAny_extend_loopS W.toS hn S hSf res items.size 0 _ #[] c₀ rfl (y9 _) xm hS (ItemsOf.nil _) λs' aj c' hm de ah=>?_⟩;rw[Moved.eq_with hm];refine hR s'.heap s'.toks aj c' (λb o hb hi e=>hm.heap b o (λhmem=>?_) e) de ah;rcases yr.mp hmem with e'|hmem
 ·show hb e'
 ·show hi (y0.mp hmem)
theorem G2(hh:A.handled=b_)(hit:s.heap.IsRevIter it l ((items.size:Int)-1))(hl:s.heap.IsList l items)(cq:l≠it)(hn:items.size<=yo)(hQ:∀h' tk aj c',(∀b o,b≠it->P2 0=a_ o->q0D 0=a_ o)->h'.get? (e_ s)=a_ {cls:=.type "list",dict:=b_,data:=.seq aj c',slots:=#[]}->ItemsOf (Qu items) aj items.size->Q (.ref (e_ s)) {s with heap:=h',toks:=tk}):
  C_ (call (.type "list") [.ref it]) Q E s:=by
 refine callType_codes (Q₁:=λobj s₁=>obj=.ref (e_ s)/\s₁={s with heap:=s.heap.push {cls:=.type "list",data:=.seq #[]} }) PySem.F.called_list (PySem.F.typeCall_list_1 _) PySem.F.entry_list_init
  (code_list_new _ ⟨rfl,rfl⟩) λobj s₁ h₁=>?_
 let⟨rfl,rfl⟩:=h₁
 have hS:(s.heap.push {cls:=.type "list",data:=.seq #[]}).get? (e_ s)=a_ {cls:=.type "list",data:=.seq #[]}:=q0O 0
 have wc:it<(e_ s):=let ⟨o,ho,_⟩:=hit;yj ho
 have qd:l<(e_ s):=let ⟨o,ho,_⟩:=hl;yj ho
 refine⟨⟨_,hS,rfl⟩,PySem.F.args_list_init_2 _ _,?_⟩
 show wpAny _ A.in1.in1 (do let old <-Builtin.List.listItems (.ref (e_ s));Builtin.List.listUpdate (.ref (e_ s)) (λ_=>#[]);letGo old.toList.reverse;y0m (.ref (e_ s)) (.ref it) .none) _ _ _
 refine xr ?_
 unfold Builtin.List.listItems
 refine xr (wpAny_seqItems hS rfl (xw ?_))
 show F_ (updateSeq (e_ s) (λ_=>#[]) >>= λ_=>letGo (#[]:q0l 0).toList.reverse >>= λ_=>y0m (.ref (e_ s)) (.ref it) .none) _ _ _
 refine xr (wpAny_updateSeq hS rfl ?_)
 have qr:=y0a (zh (λ_=>(#[]:q0l 0))) hS rfl
 have o9:∀b o,b≠(e_ s)->P2 0=a_ o->((s.heap.push {cls:=.type "list",data:=.seq #[]}).update (e_ s) (zh (λ_=>(#[]:q0l 0)))).get? b=a_ o:=
  λb o hb e=>(y0J _ _ (y1o hb)).trans (yc _ e)
 refine xr (wpAny_letGo ?_)
 refine LM (A:=A.in1) hh (hit.at λo e=>o9 it o (yt wc) e) (let ⟨o,ho,r⟩:=hl;⟨o,o9 l o (yt qd) ho,r⟩) cq (e_ s) (y0x wc) (y0x qd) .none _ qr (λh' tk aj c' hk de ah=>?_) hn
 exact⟨rfl,hQ h' tk aj c' (λb o hb e=>hk b o (yt (yj e)) hb (o9 b o (yt (yj e)) e)) de ah⟩
variable{ov:r_}
theorem rE{ok:r_}(hI:IsItemIter s.heap it dc i n ep ok ov):s.TypeIs (.ref it) "dict_itemiterator" := ⟨_,hI,rfl⟩
theorem En{v:td}{es:q1m 0}(hv:s.heap.IsItemsView v dc)(h1:q0y 0=a_ oc)(h2:oc.data=.dict es ep)(q:Q (.ref (e_ s)) {s with heap:=s.heap.push {cls:=.type "dict_itemiterator",data:=.fields #[.none,.bool false,.ref dc,.int 0 0,.int es.size 0,.int ep 0,.none,.none]} }):C_ (pyIter (.ref v)) Q E s:=by
 let⟨ov,g1,g2,g3⟩:=id hv;refine wpAny_pyIter_slot hv.typeIs F.slot_dict_items_iter (zm F.slot_dict_items_iter hv.typeIs F.entry_dict_items_iter (show F_ (Builtin.«dict_items.__iter__» _) _ _ _ from ?_) (F.args_dict_items_iter_1 _))
 unfold Builtin.«dict_items.__iter__»;refine xr (xw (xr ?_));unfold Builtin.Dict_items.dictOf;refine xr (y1D g1 g3 (x:=.ref dc) rfl (xw (xr ?_)));unfold Builtin.Dict_items.newIterator;refine xr (y0l h1 h2 (xr (y0t h1 h2 ?_)));rw[show zl "dict_itemiterator" = true by decide];simp only[if_true,Builtin.Dict_items.ownedTupleFields,List.cons_append,List.nil_append,zb,if_false];refine zd (xw ⟨_,rfl,"dict_itemiterator",_,⟨_,q0O 0,rfl⟩,zj.lookup,(by simpa[rawInt] using q)⟩)
theorem next_item{es:q1m 0}{ok:r_}{Q:A_ r_->s_->Prop}(hI:IsItemIter s.heap it dc i es.size ep ok ov)(h1:q0y 0=a_ oc)(h2:oc.data=.dict es ep)(ak:i<es.size)(q:∀h',IsItemIterOut h' it dc (i+1) es.size ep es[i].key es[i].val (e_ s)->h'.get? (e_ s)=a_ {cls:=.type "tuple",data:=.seq #[es[i].key,es[i].val]}->
   (∀(b:td)(o:Obj),b≠it->P2 0=a_ o->q0D 0=a_ o)->Q (c_ (e_ s)) {s with heap:=h'}):C_ (pyNext (.ref it)) Q E s:=by
 let hT:=rE hI;unfold pyNext;refine xr (y1N (z9 (name:=yi "__next__") hT zj (zm zj hT y1k ?_ (y1b _))));refine xr (xw (xr (xr ?_)))
 first|refine xr (zx hT (xw ?_))|refine xr (y0f hT (xw ?_))
 refine xr (y1R hI rfl ?_);rw[show zl "dict_itemiterator" = true by decide];simp only[if_true]
 change F_ (if(y4 dc == yp)=true then _ else _) _ _ s
 rw[if_neg (show ¬ ((y4 dc == yp)=true) from yl)]
 refine xr (xw (xr (y0l h1 h2 ?_)));rw[if_neg (show ¬ _ by simp)];refine xr (xw (xr (y0t h1 h2 ?_)));rw[if_neg (show ¬ _ by simp)];refine xw ?_;simp only[show ¬ ((i:Int)<0) by omega,if_false,y1a,y0N ak];refine xr ?_
 first|refine xr (zx hT (xw ?_))|refine xr (y0f hT (xw ?_))
 refine xr (y07 hT (show F_ (setField (.ref it) 3 (rawInt ((i:Int)+1)) >>= _) _ _ s from xr (y1e hI rfl (by simp) ?_)))
 let fh:IsItemIter (q0r (y0p (·.setIfInBounds 3 (rawInt ((i:Int)+1))))) it dc (i+1) es.size ep ok ov:=by
  change(q0r _).get? it=_
  rw[y0a _ hI (y1i (y01 rfl _))];simp[y0p,rawInt]
 let kp:∀(b:td)(o:Obj),b≠it->P2 0=a_ o->(q0r (y0p (·.setIfInBounds 3 (rawInt ((i:Int)+1))))).get? b=a_ o:=λb o hb e=>by rw[(zk ..).2 b hb];show e
 let sz:(q0r (y0p (·.setIfInBounds 3 (rawInt ((i:Int)+1))))).objs.size=(e_ s):=(zk ..).1;generalize s.heap.update it (y0p (·.setIfInBounds 3 (rawInt ((i:Int)+1))))=hA at fh kp sz;let iy:({s with heap:=hA}:s_).TypeIs (.ref it) "dict_itemiterator" := rE fh;refine xr (y0c (xr (y07 iy (xr (y07 iy ?_)))))
 change F_ (y06 (.ref it) 6 es[i].key es[i].val) _ _ _
 unfold y06;simp only[newTuple];refine xr (zd ?_ (by size_fits));let fb:IsItemIter (hA.push {cls:=.type "tuple",data:=.seq #[es[i].key,es[i].val]}) it dc (i+1) es.size ep ok ov:=yc _ fh;let gt:(hA.push {cls:=.type "tuple",data:=.seq #[es[i].key,es[i].val]}).get? hA.objs.size=a_ {cls:=.type "tuple",data:=.seq #[es[i].key,es[i].val]}:=q0O 0;let md:∀(b:td)(o:Obj),b≠it->P2 0=a_ o->(hA.push {cls:=.type "tuple",data:=.seq #[es[i].key,es[i].val]}).get? b=a_ o:=λb o hb e=>yc _ (kp b o hb e);rw[sz]at gt;let ne:(e_ s)≠it:=y0x (yj hI)
 change F_ _ _ _ {s with heap:=hA.push {cls:=.type "tuple",data:=.seq #[es[i].key,es[i].val]} }
 generalize hA.push {cls:=.type "tuple",data:=.seq #[es[i].key,es[i].val]}=hB at fb gt md;let eA:(y4 ({s with heap:=hA}:s_).heap.objs.size)=.ref (e_ s):=by rw[<-sz]
 simp only[eA];unfold y1F;refine xr (xr (y1D (s:={s with heap:=hB}) fb rfl (x:=.none) rfl (xw ?_)));simp only[if_true];refine xr (y1D (s:={s with heap:=hB}) fb rfl (x:=ok) rfl (xr (y1D (s:={s with heap:=hB}) fb rfl (x:=ov) rfl ?_)));let ie:∀{h1:v_}{fs:q0l 0}{j:Nat}{x:r_}{α:Type}{f:Unit->Sem α}{R:α->s_->Prop}{E':f_ 0},h1.get? it=a_ {cls:=.type "dict_itemiterator",data:=.fields fs}->j<fs.size->
   (∀h2:v_,h2.get? it=a_ {cls:=.type "dict_itemiterator",data:=.fields (fs.setIfInBounds j x)}->(∀(b:td),b≠it->h2.get? b=h1.get? b)->q1q (f ()) R E' {s with heap:=h2})->
   q1q (setField (.ref it) j x >>= f) R E' {s with heap:=h1}:=λ{h1 fs j x α f R E'} g hj k=>by
  refine xr (y1e (s:={s with heap:=h1}) g rfl hj ?_);refine k _ ?_ λb hb=>(zk ..).2 b hb;rw[y0a _ g (y1i (y01 rfl _))];simp[y0p]
 refine ie fb (by simp) λh3 g3 s3=>?_;refine ie g3 (by simp) λh4 g4 s4=>?_;refine ie g4 (by simp) λh5 g5 s5=>?_;refine ie g5 (by simp) λh6 g6 s6=>?_;refine xr (wpAny_letGo (xw (xw ⟨_,rfl,xw (q h6 (by rw[<-sz];change h6.get? it=_;rw[g6];simp) ?_ λb o hb e=>?_)⟩)))
 ·rw[s6 _ ne,s5 _ ne,s4 _ ne,s3 _ ne];show gt
 ·rw[s6 _ hb,s5 _ hb,s4 _ hb,s3 _ hb];show md b o hb e
theorem Ov{es:q1m 0}{ok:r_}{Q:A_ r_->s_->Prop}(hh:A.handled=b_)(hI:IsItemIter s.heap it dc i es.size ep ok ov)(h1:q0y 0=a_ oc)(h2:oc.data=.dict es ep)(ir:es.size<=i)(q:∀h',Heap.ExtBut it s.heap h'->Q b_ {s with heap:=h'}):C_ (pyNext (.ref it)) Q E s:=by
 let hT:=rE hI;unfold pyNext;refine xr (y1N (z9 (name:=yi "__next__") hT zj (zm zj hT y1k ?_ (y1b _))));refine xr (xw (xr (xr ?_)))
 first|refine xr (zx hT (xw ?_))|refine xr (y0f hT (xw ?_))
 refine xr (y1R hI rfl ?_);rw[show zl "dict_itemiterator" = true by decide];simp only[if_true]
 change F_ (if(y4 dc == yp)=true then _ else _) _ _ s
 rw[if_neg (show ¬ ((y4 dc == yp)=true) from yl)]
 refine xr (xw (xr (y0l h1 h2 ?_)));rw[if_neg (show ¬ _ by simp)];refine xr (xw (xr (y0t h1 h2 ?_)));rw[if_neg (show ¬ _ by simp)];refine xw ?_;simp only[show ¬ ((i:Int)<0) by omega,if_false,y1a,y0h ir];refine xr ?_
 first|refine xr (zx hT (xw ?_))|refine xr (y0f hT (xw ?_))
 refine(show F_ (setField (.ref it) 2 .none >>= _) _ _ s from xr (y1e hI rfl (by simp) ?_))
 refine(show F_ (newExc (.type "StopIteration") [] >>= _) _ _ _ from xr ?_);simp only[newExc,newTuple]
 refine xr (zd (xr (m:=y1S _ _) (wpAny_of_eq (a:=yp) (by first|rfl|(simp only[y1S];rfl)) (zd ?_ (by size_fits)))) (by size_fits))
 simp only[raiseNew];refine xr (wpAny_handled ?_);rw[show A.in1.handled=b_ from hh]
 refine xr (xw (wpAny_throw ?_));refine xr (y2b (T:="StopIteration") (b:=true) ⟨_,q0O 0,rfl⟩ isSubtype_stop ?_);show xw (q _ (((zk ..).extBut.push _).push _))
theorem Eo:entryFor table "dict_itemiterator.__iter__" = a_ Builtin.«dict_keyiterator.__iter__»:=entryFor_alias (id:="dict_itemiterator.__iter__") (id':="dict_keyiterator.__iter__") (by first|rfl|decide +kernel) (by first|rfl|decide +kernel) (by decide +kernel) (by rfl)
theorem LN{ok:r_}(hI:IsItemIter s.heap it dc i n ep ok ov)(q:Q (.ref it) s):C_ (pyIter (.ref it)) Q E s:=by
 let hT:=rE hI;refine wpAny_pyIter_slot hT F.slot_dict_itemiterator_iter (zm F.slot_dict_itemiterator_iter hT Eo (show F_ (Builtin.«dict_keyiterator.__iter__» _) _ _ _ from ?_) (F.args_dict_itemiterator_iter_1 _))
 unfold Builtin.«dict_keyiterator.__iter__»;refine xr (xw ?_);show xw ⟨_,rfl,"dict_itemiterator",_,hT,zj.lookup,q⟩
theorem JK(dc:td)(hd:(dc == y0o)=false):MeetsIn prog w (Builtin.«dict.items» ⟨[.ref dc],[]⟩) (λ_ R s=>s.TypeIs (.ref dc) "dict" /\
   R (.ok (.ret (.ref (e_ s)))) {s with heap:=s.heap.push {cls:=.type "dict_items",data:=.fields #[.ref dc]} }):=
 .of_wp λA R s ⟨hT,h⟩=>by
  refine xr ?_;unfold Builtin.Dict.noArgs;refine xr (wpAny_notOrdered_dict hT (show F_ (pure dc) _ _ s from xw (show F_ (y1j dc >>= _) _ _ s from ?_)))
  unfold y1j;rw[if_neg (show ¬ _ from by rw[hd];decide)]
  refine xr (xw (xr (zd (xw ⟨_,rfl,h⟩))))
open PySem.SeqAt PySem.W
def iT(b:Bool)(n i:Nat):Nat:=if b then n-1-i else i
def JL(b:Bool)(n:Nat)(p:z_ Nat):z_ Nat:=q0s (p.map (iT b n))
theorem vK{α:Type}(b:Bool){l:z_ α}{d:α}(hi:i<l.length):(q0s l).getD i d=l.getD (iT b l.length i) d:=by
 cases b with
 |false=>rfl
 |true=>
  change l.reverse.getD i d=l.getD (l.length-1-i) d
  rw[y0F,y0F,List.getElem?_reverse hi]
theorem pX(h:i<n):iT b n i<n:=by unfold iT;split <;> omega
theorem LO{p:z_ Nat}(h:p.Perm (za n)):(JL b n p).Perm (za n):=by
 cases b with
 |false=>
  let e:JL false n p=p:=by
   change p.map (λi=>iT false n i)=p
   have:(λi=>iT false n i)=id:=by funext i;rfl
   rw[this,List.map_id]
  rw[e];show h
 |true=>
  let e:(za n).map (iT true n)=(za n).reverse:=by
   apply List.ext_getElem
   ·simp
   ·intro i h1 h2;simp[iT]
  change((p.map (iT true n)).reverse).Perm _
  refine(y2s _).trans ((h.map _).trans ?_);rw[e];show y2s _
theorem LP{p:z_ Nat}{lt:Nat->Nat->Bool}(h:p.Pairwise (λi j=>lt (iT b n j) (iT b n i)=false)):(JL b n p).Pairwise (λi j=>(if b then lt i j else lt j i)=false):=by
 let h1:(p.map (iT b n)).Pairwise (λi j=>lt j i=false):=y0v.mpr h;cases b with
 |false=>exact h1
 |true=>
  change((p.map (iT true n)).reverse).Pairwise _
  rw[y2o];show h1
theorem Ow{vs:z_ r_}{p:z_ Nat}(h:∀i∈p,i<vs.length):q0s (p.map λi=>(q0s vs).getD i yp)=(JL b vs.length p).map λi=>q0R 0:=by
 let e:(p.map λi=>(q0s vs).getD i yp)=(p.map (iT b vs.length)).map λi=>q0R 0:=by rw[z7];show y0B λi hi=>vK b (h i hi)
 rw[e];unfold JL katRev;split
 ·rw[List.map_reverse]
 ·rfl
theorem LQ{α:Type}(b:Bool)(l:z_ α):q0s (q0s l)=l:=by unfold katRev;split <;> simp
theorem range_getD(vs:z_ r_):((za vs.length).map λi=>q0R 0)=vs:=by
 apply y0D;intro i;by_cases hi:i<vs.length
 ·simp[hi]
 ·simp[hi]
variable{e1:Nat}{kS:td}{out:z_ r_}
section
variable{vs ks:z_ r_}
theorem VJ{st:SortSt}{e:Nat}{P:PySem.Fin->s_->Prop}(jh:(arrOf st).map (·.2)=out.toArray)(hz:out.length<64)(hkz:ks.length<64)(hf:failedOf st=b_)(j6:kS≠a)(gk:s.heap.get? kS=a_ (seqObj "list" ks.toArray e))(ga:s.heap.get? a=a_ (seqObj "list" #[] e1))(h:∀(h':v_)(c:Nat),(∀x o,x≠a->x≠kS->s.heap.get? x=a_ o->h'.get? x=a_ o)->h'.get? a=a_ (seqObj "list" (q0s out).toArray c)->(∃o,h'.get? kS=a_ o)->P (.done (.ret .none)) {s with heap:=h'}):
  C_ (ksk_tail a b e1 (.ref kS) st) P E s:=by
 let w1:=zk s.heap kS (zh λ_=>(#[]:q0l 0));obtain⟨ck,hck⟩:∃ck,(s.heap.update kS (zh λ_=>(#[]:q0l 0))).get? kS=a_ (seqObj "list" #[] ck):=⟨_,y2n gk λ_=>#[]⟩;let si:=(w1.2 a j6.symm).trans ga;let w2:=zk (s.heap.update kS (zh λ_=>(#[]:q0l 0))) a (zh λ_=>(q0s out).toArray);obtain⟨c2,cx⟩:∃c2,((s.heap.update kS (zh λ_=>(#[]:q0l 0))).update a (zh λ_=>(q0s out).toArray)).get? a=a_ (seqObj "list" (q0s out).toArray c2):=⟨_,y2n si λ_=>(q0s out).toArray⟩;let hsz:(q0s out).toArray.size=out.length:=by rw[yn,kat_len]
 unfold ksk_tail
 try dsimp only
 rw[jh,kat_outs];refine xr (y1M gk rfl ?_ (by rw[yn,zr];omega) (y9 _));refine xr (wpAny_letGo (xr (seqEpoch_at si rfl ?_)));refine xr (y1M si rfl ?_ (y9 _) (ze (Nat.le_of_eq hsz) (by rw[zr];omega)));rw[hf];simp only[bne_self_eq_false,zb,if_false];show xw (h _ c2 (λx o h1 h2 q=>(w2.2 x h1).trans ((w1.2 x h2).trans q)) cx ⟨_,(w2.2 kS j6).trans hck⟩)
theorem zax{e:Nat}{P:PySem.Fin->s_->Prop}(lt:Nat->Nat->Bool)(hl:ks.length=vs.length)(h64:vs.length<64)(j6:kS≠a)(tr:∀i j k,i<vs.length->j<vs.length->k<vs.length->lt j i=false->lt k j=false->lt k i=false)(as:∀i j,i<vs.length->j<vs.length->lt i j=true->lt j i=false)(gk:s.heap.get? kS=a_ (seqObj "list" ks.toArray e))(ga:s.heap.get? a=a_ (seqObj "list" #[] e1))(hk:2<=vs.length->∀(Q:jn SortKind) E',Q κ s->C_ (keyKind' ks.toArray) Q E' s)(ak:∀i j,i<vs.length->j<vs.length->∀Q:jn Bool,Q (lt i j) s->C_ (keyLt' κ (ks.getD i yp) (ks.getD j yp)) Q (λ_ _=>False) s)(h:∀(p:z_ Nat)(h':v_)(c:Nat),p.Perm (za vs.length)->p.Pairwise (λi j=>(if b then lt i j else lt j i)=false)->(∀x o,x≠a->x≠kS->s.heap.get? x=a_ o->h'.get? x=a_ o)->
   h'.get? a=a_ (seqObj "list" (p.map λi=>q0R 0).toArray c)->(∃o,h'.get? kS=a_ o)->P (.done (.ret .none)) {s with heap:=h'}):
  C_ (ksk_end a b vs.toArray e1 (.ref kS) ks.toArray) P E s:=by
 have skip:∀t:Sem PySem.Fin,C_ t P E s->C_ (if b=true then(do let _ <-rule "list.sort.reverse";t) else t) P E s:=λt ht=>by
  split
  ·exact xr (wpAny_rule ht)
  ·exact ht
 have u2:(q0s ks).length=(q0s vs).length:=by rw[kat_len,kat_len,hl]
 unfold ksk_end
 try dsimp only
 refine skip _ ?_
 rw[kat_pairs b hl]
 by_cases h2:vs.toArray.size<2
 ·rw[if_pos h2,if_pos h2]
  rw[yn]at h2
  refine xr (xw ?_)
  rw[StateT.run_pure]
  refine xr (xw ?_)
  try dsimp only
  refine VJ (st:=SortSt.mk' general' ((q0s ks).toArray.zip (q0s vs).toArray) #[] 7 b_) (out:=q0s vs) (ks:=ks) ?_ (by rw[kat_len];exact h64) ⋯ rfl j6 gk ga λh' c k1 k2 k3=>?_
  ·show((q0s ks).toArray.zip (q0s vs).toArray).map (·.2)=(q0s vs).toArray
   apply Array.toList_inj.mp
   rw[Array.toList_map,ksk_zip]
   show(List.zip _ _).map Prod.snd=_
   rw[List.map_snd_zip (by rw[u2];exact yg _)]
  ·rw[LQ]at k2
   refine h (za vs.length) h' c (List.Perm.refl _) ?_ k1 (by rw[range_getD];exact k2) k3
   rw[List.pairwise_iff_getElem]
   intro i j hi hj bz
   simp only[y1A]at hi hj
   omega
 ·rw[if_neg h2,if_neg h2]
  rw[yn]at h2
  refine xr (hk ⋯ _ _ ?_)
  have uu:(kas_sort (q0s vs).length).kasWp (kas_ask prog w A κ (q0s ks)) (λp cj=>p=evT (λi j=>lt (q0W i) (q0W j)) (kas_sort vs.length)/\cj=s) s:=by
   rw[kat_len]
   refine Ej (n:=vs.length) (lt:=λi j=>lt (q0W i) (q0W j)) (λi j C hi hj hC=>?_) (Ei ⋯) ⟨rfl,rfl⟩
   show C_ (keyLt' κ ((q0s ks).getD i yp) ((q0s ks).getD j yp)) C (λ_ _=>False) s
   rw[vK b ⋯,vK b ⋯,hl]
   exact ak _ _ (pX hi) (pX hj) C hC
  refine xr (y0R (kat_run (ks:=q0s ks) (vs:=q0s vs) (E:=E) (Q:=λb7 s'=>s'=s/\arrOf b7=(evT (λi j=>lt (q0W i) (q0W j)) (kas_sort vs.length)).map (kas_item ((q0s ks).toArray.zip (q0s vs).toArray))/\failedOf b7=b_)
   u2 (by rw[kat_len];omega) (by rw[kat_len];exact h64) (λp b7 s' _ a2 a3 a4=>⟨a4.2,by rw[a2,a4.1],a3⟩) uu) ?_ λ_ _ x=>x)
  rintro⟨⟨⟩,b7⟩ s' ⟨rfl,har,hf⟩
  try dsimp only
  let⟨c1,c2⟩:=JI (n:=vs.length) (lt:=λi j=>lt (q0W i) (q0W j)) (λi j k hi hj hk=>tr _ _ _ (pX hi) (pX hj) (pX hk)) (λi j hi hj=>as _ _ (pX hi) (pX hj)) ⋯
  have ay:∀i∈(evT (λi j=>lt (q0W i) (q0W j)) (kas_sort vs.length)).toList,i<vs.length:=λi hi=>by simpa using c1.mem_iff.mp hi
  refine VJ (ks:=ks) (kat_snds u2 har) (by rw[yh,c1.length_eq,y1A];exact h64) ⋯ hf j6 gk ga λh' c k1 k2 k3=>?_
  rw[Ow ay]at k2
  exact h _ h' c (LO c1) (LP c2) k1 k2 k3
theorem Ep{f:r_}{P:PySem.Fin->s_->Prop}(ho:s.heap.get? a=a_ (seqObj "list" vs.toArray n))(h64:vs.length<64)(J:td->Nat->z_ r_->Nat->s_->Prop)(h0:∀(kS e1:Nat)(h':v_),(∀x o,x≠a->s.heap.get? x=a_ o->h'.get? x=a_ o)->(e_ s)<=kS->h'.get? a=a_ (seqObj "list" #[] e1)->h'.get? kS=a_ (seqObj "list" #[] 0)->J kS e1 [] 0 {s with heap:=h'})(gg:∀kS e1 ks e s',J kS e1 ks e s'->kS≠a/\s'.heap.get? a=a_ (seqObj "list" #[] e1)/\s'.heap.get? kS=a_ (seqObj "list" ks.toArray e))(turn:∀kS e1 ks e s' x,vs[ks.length]?=a_ x->J kS e1 ks e s'->C_ (call f [x]) (λv cj=>cj.heap.get? kS=a_ (seqObj "list" ks.toArray e)/\∀(h':v_) e',y1w kS cj.heap h'->h'.get? kS=a_ (seqObj "list" (ks++[v]).toArray e')->J kS e1 (ks++[v]) e' { cj with heap:=h'}) (λ_ _=>False) s')(fin:∀kS e1 ks e s',ks.length=vs.length->J kS e1 ks e s'->∃lt:Nat->Nat->Bool,(∀i j k,i<vs.length->j<vs.length->k<vs.length->lt j i=false->lt k j=false->lt k i=false)/\(∀i j,i<vs.length->j<vs.length->lt i j=true->lt j i=false)/\
   (2<=vs.length->∀(Q:jn SortKind) E',Q κ s'->C_ (keyKind' ks.toArray) Q E' s')/\
   (∀i j,i<vs.length->j<vs.length->∀Q:jn Bool,Q (lt i j) s'->C_ (keyLt' κ (ks.getD i yp) (ks.getD j yp)) Q (λ_ _=>False) s')/\
   ∀(p:z_ Nat)(h':v_)(c:Nat),p.Perm (za vs.length)->p.Pairwise (λi j=>(if b then lt i j else lt j i)=false)->(∀x o,x≠a->x≠kS->s'.heap.get? x=a_ o->h'.get? x=a_ o)->
   h'.get? a=a_ (seqObj "list" (p.map λi=>q0R 0).toArray c)->(∃o,h'.get? kS=a_ o)->P (.done (.ret .none)) { s' with heap:=h'}):
  C_ (ksk_tree a f b) P E s:=by
 let ha:a<(e_ s):=yj ho;let w1:=zk s.heap a (zh λ_=>(#[]:q0l 0));obtain⟨e1,f9⟩:∃e1,(q0a (zh λ_=>(#[]:q0l 0))).get? a=a_ (seqObj "list" #[] e1):=⟨_,y2n ho λ_=>#[]⟩;unfold ksk_tree;refine xr (listItems_at ho rfl (xr (y1M ho rfl ?_ (by rw[yn,zr];omega) (y9 _))));refine xr (seqEpoch_at f9 rfl (xr (wpAny_newTuple ?_ (by change vs.length<=_;rw[zr];omega))));refine xr (wpAny_newList (y0c ?_) (y9 _));let hk1:((q0a (zh λ_=>(#[]:q0l 0))).push (seqObj "tuple" vs.toArray 0)).objs.size=(e_ s)+1:=by rw[size_push',y2z]
 let J0:=h0 ((q0a (zh λ_=>(#[]:q0l 0))).push (seqObj "tuple" vs.toArray 0)).objs.size e1 (((q0a (zh λ_=>(#[]:q0l 0))).push (seqObj "tuple" vs.toArray 0)).push (seqObj "list" #[] 0))
  (λx o hx q=>yc _ (yc _ ((w1.2 x hx).trans q))) (by rw[hk1];show y09 _) (yc _ (yc _ f9)) (q0O 0)
 change C_ (ksk_rest a f b vs.toArray e1 (.ref ((q0a (zh λ_=>(#[]:q0l 0))).push (seqObj "tuple" vs.toArray 0)).objs.size)) P E {s with heap:=((q0a (zh λ_=>(#[]:q0l 0))).push (seqObj "tuple" vs.toArray 0)).push (seqObj "list" #[] 0)}
 generalize ((q0a (zh λ_=>(#[]:q0l 0))).push (seqObj "tuple" vs.toArray 0)).objs.size=kS at J0
 revert J0
 generalize ({s with heap:=((q0a (zh λ_=>(#[]:q0l 0))).push (seqObj "tuple" vs.toArray 0)).push (seqObj "list" #[] 0)}:s_)=s0;intro J0;unfold ksk_rest;refine xr (wpAny_rule ?_)
 first
  |rw[List.forIn_toArray]
  |(rw[<-Array.forIn_toList];simp only[List.toList_toArray])
 refine xr (ksk_fold (λi s'=>∃ks e,ks.length=i/\J kS e1 ks e s') vs 0 s0 ⟨[],0,rfl,J0⟩ ?step ?done)
 case step=>
  rintro j x s' hx ⟨ks,e,hl,hJ⟩;let hj:j<vs.length:=(xt.mp hx).1;let jo:ks.length=j:=⋯;refine xr (y1N (y0R (turn kS e1 ks e s' x (by rw[jo];show hx) hJ) (λv cj q=>?_) λ_ _ z=>z.elim));let⟨gk,nxt⟩:=q
  try dsimp only
  let w2:=zk cj.heap kS (zh (·.push v));obtain⟨c2,cx⟩:∃c2,(cj.heap.update kS (zh (·.push v))).get? kS=a_ (seqObj "list" (ks.toArray.push v) c2):=⟨_,y2n gk (·.push v)⟩;refine xr (y1M gk rfl ?_ (by rw[yn,zr];omega) (ze (Nat.le_of_eq (Array.size_push ..)) (by rw[yn,zr];omega)));refine xw ⟨rfl,ks++[v],c2,by simp;omega,nxt _ c2 w2 ?_⟩;rw[cx];simp
 case done=>
  rintro s' ⟨ks,e,hl,hJ⟩;let jo:ks.length=vs.length:=⋯;let⟨j6,ga,gk⟩:=gg kS e1 ks e s' hJ;let⟨lt,tr,as,hk,ak,h⟩:=fin kS e1 ks e s' jo hJ
  try dsimp only
  refine xr (listItems_at gk rfl ?_);show zax (κ:=κ) lt jo h64 j6 tr as gk ga hk ak h
end
open PySem.SeqAt
inductive PV where
 |non|bl (b:Bool)|int (i:Int)|str (x:Str)|tup (xs:z_ PV)|ref (n:Nat)|ty (n:String)|fl (xs:z_ PV)
mutual
def PV.beq:PV->PV->Bool
 |.non,.non=>true
 |.bl a,.bl b=>a == b
 |.int a,.int b=>a == b
 |.str a,.str b=>a == b
 |.tup a,.tup b=>PV.beqs a b
 |.ref a,.ref b=>a == b
 |.ty a,.ty b=>a == b
 |.fl a,.fl b=>PV.beqs a b
 |_,_=>false
def PV.beqs:z_ PV->z_ PV->Bool
 |[],[]=>true
 |x::xs,y::ys=>PV.beq x y&&PV.beqs xs ys
 |_,_=>false
end
mutual
theorem PV.beq_self:∀x:PV,PV.beq x x=true
 |.non=>rfl
 |.bl a=>by simp[PV.beq]
 |.int a=>by simp[PV.beq]
 |.str a=>by simp[PV.beq]
 |.tup a=>by simp only[PV.beq];show PV.beqs_self a
 |.ref a=>by simp[PV.beq]
 |.ty a=>by simp[PV.beq]
 |.fl a=>by simp only[PV.beq];show PV.beqs_self a
theorem PV.beqs_self:∀x:z_ PV,PV.beqs x x=true
 |[]=>rfl
 |x::xs=>by simp only[PV.beqs,PV.beq_self x,PV.beqs_self xs,Bool.and_self]
end
mutual
theorem PV.beq_eq:∀{x y:PV},PV.beq x y=true->x=y
 |.non,y,h=>by cases y <;> first|rfl|(simp[PV.beq]at h)
 |.bl a,y,h=>by cases y <;> first|(simp[PV.beq]at h;rw[h])|(simp[PV.beq]at h)
 |.int a,y,h=>by cases y <;> first|(simp[PV.beq]at h;rw[h])|(simp[PV.beq]at h)
 |.str a,y,h=>by cases y <;> first|(simp[PV.beq]at h;rw[h])|(simp[PV.beq]at h)
 |.tup a,y,h=>by
  cases y with
  |tup b=>simp only[PV.beq]at h;rw[PV.beqs_eq h]
  |_=>simp[PV.beq]at h
 |.ref a,y,h=>by cases y <;> first|(simp[PV.beq]at h;rw[h])|(simp[PV.beq]at h)
 |.ty a,y,h=>by cases y <;> first|(simp[PV.beq]at h;rw[h])|(simp[PV.beq]at h)
 |.fl a,y,h=>by
  cases y with
  |fl b=>simp only[PV.beq]at h;rw[PV.beqs_eq h]
  |_=>simp[PV.beq]at h
theorem PV.beqs_eq:∀{x y:z_ PV},PV.beqs x y=true->x=y
 |[],y,h=>by cases y <;> first|rfl|(simp[PV.beqs]at h)
 |x::xs,y,h=>by
  cases y with
  |nil=>simp[PV.beqs]at h
  |cons y ys=>simp only[PV.beqs,zg]at h;rw[PV.beq_eq h.1,PV.beqs_eq h.2]
end
instance:DecidableEq PV:=λx y=>match h:PV.beq x y with
 |true=>isTrue (PV.beq_eq h)
 |false=>isFalse λe=>by rw[e,PV.beq_self]at h;cases h
def PV.ky:Nat->PV->Bool
 |_,.int _=>true
 |_,.str _=>true
 |n+1,.tup xs=>xs.all (PV.ky n)
 |_,_=>false
section
variable(w:w4)
mutual
def hsh:PV->Int
 |.int i=>VX w (.inl i)
 |.str x=>VX w (.inr x)
 |.tup xs=>reduceHash (y0w (D0 xs))
 |_=>0
def D0:z_ PV->z_ Int
 |[]=>[]
 |x::xs=>hsh x::D0 xs
end
end
mutual
def drw:PV->Nat
 |.tup xs=>JM xs+1
 |_=>1
def JM:z_ PV->Nat
 |[]=>0
 |x::xs=>drw x+JM xs
end
mutual
def HR(h:v_):PV->r_->Prop
 |.int i,v=>∃t,v=.int i t
 |.str x,v=>∃t,v=.str x t
 |.tup ps,v=>∃a its,v=.ref a/\IsTup h a its.toArray/\HRs h ps its
 |_,_=>False
def HRs(h:v_):z_ PV->z_ r_->Prop
 |[],[]=>True
 |p::ps,v::vs=>HR h p v/\HRs h ps vs
 |[],_::_=>False
 |_::_,[]=>False
end
theorem HRs.length{h:v_}:∀{ps:z_ PV}{vs:z_ r_},HRs h ps vs->ps.length=vs.length
 |[],[],_=>rfl
 |_::_,_::_,r=>congrArg (·+1) (HRs.length r.2)
 |[],_::_,r=>r.elim
 |_::_,[],r=>r.elim
theorem HRs.at{h:v_}:∀{ps:z_ PV}{vs:z_ r_}{j:Nat}{p:PV},HRs h ps vs->ps[j]?=a_ p->∃v,vs[j]?=a_ v/\HR h p v
 |[],[],_,_,_,e=>by simp at e
 |q::_,v::_,0,p,r,e=>by
  have:q=p:=by simpa using e
  subst this;show⟨v,rfl,r.1⟩
 |_::ps,_::vs,j+1,p,r,e=>by
  let⟨v,h1,h2⟩:=HRs.at (ps:=ps) (vs:=vs) (j:=j) (p:=p) r.2 (k_ e);show⟨v,k_ h1,h2⟩
 |[],_::_,_,_,r,_=>r.elim
 |_::_,[],_,_,r,_=>r.elim
theorem Ox{h:v_}{x y:q0l 0}(p:IsTup h a x)(q:IsTup h a y):x=y:=by let⟨o,ho,_,n,hd⟩:=p;let⟨o',dq,_,n',dr⟩:=q;obtain rfl:o=o':=yx (ho.symm.trans dq);rw[hd]at dr;injection dr
mutual
theorem HR.one{h:v_}:∀{p q:PV}{v:r_},HR h p v->HR h q v->p=q
 |.int i,q,v,r,r'=>by
  let⟨t,rfl⟩:=r;cases q with
  |int j=>let⟨t',e⟩:=r';injection e with e;rw[e]
  |str j=>let⟨t',e⟩:=r';cases e
  |tup j=>let⟨_,_,e,_⟩:=r';cases e
  |_=>exact r'.elim
 |.str i,q,v,r,r'=>by
  let⟨t,rfl⟩:=r;cases q with
  |int j=>let⟨t',e⟩:=r';cases e
  |str j=>let⟨t',e⟩:=r';injection e with e;rw[e]
  |tup j=>let⟨_,_,e,_⟩:=r';cases e
  |_=>exact r'.elim
 |.tup ps,q,v,r,r'=>by
  let⟨a,its,rfl,p,rs⟩:=r;cases q with
  |int j=>let⟨t',e⟩:=r';cases e
  |str j=>let⟨t',e⟩:=r';cases e
  |tup qs=>
   let⟨b,its',e,p',c9⟩:=r';cases e
   have:its=its':=by simpa using congrArg Array.toList (Ox p p')
   subst this;rw[HRs.one rs c9]
  |_=>exact r'.elim
 |.non,_,_,r,_=>r.elim
 |.bl _,_,_,r,_=>r.elim
 |.ref _,_,_,r,_=>r.elim
 |.ty _,_,_,r,_=>r.elim
 |.fl _,_,_,r,_=>r.elim
theorem HRs.one{h:v_}:∀{ps qs:z_ PV}{vs:z_ r_},HRs h ps vs->HRs h qs vs->ps=qs
 |[],[],[],_,_=>rfl
 |p::ps,q::qs,v::vs,r,r'=>by rw[HR.one r.1 r'.1,HRs.one r.2 r'.2]
 |[],_::_,[],_,r=>r.elim
 |[],_,_::_,r,_=>r.elim
 |_::_,_,[],r,_=>r.elim
 |_::_,[],_::_,_,r=>r.elim
end
theorem LR{h:v_}{d:td}{o:Obj}{es ep}{x:q0l 0}(p:IsTup h a x)(ho:h.get? d=a_ o)(hd:o.data=.dict es ep)(hs:y1w d h h'):IsTup h' a x:=by
 let⟨q,hq,hc,n,gf⟩:=p;let ne:a≠d:=by rintro rfl;obtain rfl:q=o:=yx (hq.symm.trans ho);rw[hd]at gf;cases gf
 show⟨q,(hs.2 a ne).trans hq,hc,n,gf⟩
mutual
theorem HR.keep{h h':v_}(k:∀a x,IsTup h a x->IsTup h' a x):∀{p:PV}{v:r_},HR h p v->HR h' p v
 |.int i,v,r=>r
 |.str i,v,r=>r
 |.tup ps,v,⟨a,its,e,p,rs⟩=>⟨a,its,e,q0X p,HRs.keep k rs⟩
 |.non,_,r=>r.elim
 |.bl _,_,r=>r.elim
 |.ref _,_,r=>r.elim
 |.ty _,_,r=>r.elim
 |.fl _,_,r=>r.elim
theorem HRs.keep{h h':v_}(k:∀a x,IsTup h a x->IsTup h' a x):∀{ps:z_ PV}{vs:z_ r_},HRs h ps vs->HRs h' ps vs
 |[],[],_=>trivial
 |_::_,_::_,r=>⟨HR.keep k r.1,HRs.keep k r.2⟩
 |[],_::_,r=>r.elim
 |_::_,[],r=>r.elim
end
theorem Qw:∀(n:Nat){A:u_}{E:f_ 0}{s:s_}{p:PV}{v:r_}{Q:jn Int},p.ky n=true->A.units+n<cLine->q1r p v->Q (hsh w p) { s with toks:=s.toks+drw p}->
  C_ (pyHash v) Q E s:=by
 intro n
 induction n with
 |zero=>
  intro A E s p v Q hk hu r h;cases p with
  |int i=>let⟨t,rfl⟩:=r;show wpAny_pyHash_int h
  |str i=>let⟨t,rfl⟩:=r;show wpAny_pyHash_str h
  |_=>cases hk
 |succ n ih=>
  intro A E s p v Q hk hu r h;cases p with
  |int i=>let⟨t,rfl⟩:=r;show wpAny_pyHash_int h
  |str i=>let⟨t,rfl⟩:=r;show wpAny_pyHash_str h
  |tup ps=>
   let⟨a,its,rfl,⟨o,ho,hc,m,hd⟩,rs⟩:=r;let e9:∀q∈ps,q.ky n=true:=y1.mp hk;let hT:s.TypeIs (.ref a) "tuple" := ⟨o,ho,hc⟩;unfold pyHash;unfold pyHashByItsType;refine xr (wpAny_cRoomFor_or (.inr (show A.units<cLine by omega)) (xr (y0M hT F.slot_tuple_hash.lookup ?_)))
   change F_ (if((a_ (Value.builtin "tuple.__hash__"):A_ r_) == a_ yp)=true then _ else _) Q E s
   rw[if_neg (show ¬ _ from by rw[beq_builtin_none];decide)]
   refine xr (y0M hT F.slot_tuple_hash.lookup (show F_ (callSpecialIfBoundUnlessNone? (.ref a) "__hash__" _ >>= _) Q E s from ?_))
   refine xr (wpAny_callSpecialIfBoundUnlessNone?_slot hT F.slot_tuple_hash (zm F.slot_tuple_hash hT F.entry_tuple_hash (show F_ (y2t (.ref a) >>= _) _ _ s from ?_) (F.args_tuple_hash_1 _)))
   refine xr (wpAny_tupleItemsOf ho hd (xr ?_));rw[<-Array.forIn_toList];refine y2A _ (λrest (b:Array Int) s'=>∃left,HRs s.heap left rest/\(∀q∈left,q.ky n=true)/\b.toList++D0 w left=D0 w ps/\s'.heap=s.heap/\s'={ s with toks:=s'.toks}/\s'.toks+JM left=s.toks+JM ps) _ ?turn ?stop _ _ ⟨ps,rs,e9,rfl,rfl,rfl,rfl⟩
   case turn=>
    rintro x rest b s' ⟨left,rl,kl,eb,eh,es,et⟩;cases left with
    |nil=>exact rl.elim
    |cons q left=>
     let r1:HR s'.heap q x:=by rw[eh];show rl.1
     refine xr (ih (kl q ye) (show A.units+1+n<cLine by omega) r1 (xw ?_));refine⟨left,rl.2,λz hz=>kl z (yd _ hz),?_,eh,?_,?_⟩
     ·rw[<-eb];simp[D0]
     ·rw[es]
     ·rw[<-et]
      change s'.toks+drw q+JM left=s'.toks+(drw q+JM left)
      omega
   case stop=>
    rintro b s' ⟨left,rl,kl,eb,eh,es,et⟩;cases left with
    |cons q left=>exact rl.elim
    |nil=>
     let eb':b.toList=D0 w ps:=by rw[<-eb];simp[D0]
     let et':s'.toks=s.toks+JM ps:=et
     change F_ (retInt (y0w b.toList)) _ _ _
     rw[eb',es];refine wpAny_ret_mkInt ?_
     change F_ (if(decide (-(2:Int) ^ 63<=y0w (D0 w ps))&&decide (y0w (D0 w ps)<2 ^ 63))=true then _ else _) Q E _
     let h':Q (reduceHash (y0w (D0 w ps))) { s with toks:=s.toks+(JM ps+1)}:=h;unfold reduceHash at h';rw[et'];by_cases hr:(decide (-(2:Int) ^ 63<=y0w (D0 w ps))&&decide (y0w (D0 w ps)<2 ^ 63))=true
     ·rw[if_pos hr]at h'⊢;show xw (by simpa[Nat.add_assoc] using h')
     ·rw[if_neg hr]at h'⊢;show xr (wpAny_rule (xw (by simpa[Nat.add_assoc] using h')))
  |_=>cases hk
theorem X1:∀(n:Nat){A:u_}{s:s_}{p q:PV}{v u:r_},p.ky n=true->q.ky n=true->A.units+n<cLine->q1r p v->q1r q u->RcAt A s v u (decide (p=q)):=by
 intro n
 induction n with
 |zero=>
  intro A s p q v u hp hq hu r r';cases p with
  |int i=>
   let⟨t,rfl⟩:=r;cases q with
   |int j=>let⟨t',rfl⟩:=r';have:=RcAt.int_int (A:=A) (s:=s) i t j t';rwa[show decide (PV.int i=PV.int j)=(i == j) by simp[y2p]]
   |str j=>let⟨t',rfl⟩:=r';show RcAt.int_str i t j t'
   |_=>cases hq
  |str i=>
   let⟨t,rfl⟩:=r;cases q with
   |int j=>let⟨t',rfl⟩:=r';show RcAt.str_int i t j t'
   |str j=>let⟨t',rfl⟩:=r';have:=RcAt.str_str (A:=A) (s:=s) i t j t';rwa[show decide (PV.str i=PV.str j)=(i == j) by simp[y2p]]
   |_=>cases hq
  |_=>cases hp
 |succ n ih=>
  intro A s p q v u hp hq hu r r';cases p with
  |int i=>
   let⟨t,rfl⟩:=r;cases q with
   |int j=>let⟨t',rfl⟩:=r';have:=RcAt.int_int (A:=A) (s:=s) i t j t';rwa[show decide (PV.int i=PV.int j)=(i == j) by simp[y2p]]
   |str j=>let⟨t',rfl⟩:=r';show RcAt.int_str i t j t'
   |tup js=>let⟨b,its,rfl,p',_⟩:=r';show RcAt.int_tuple i t p' ⋯
   |_=>cases hq
  |str i=>
   let⟨t,rfl⟩:=r;cases q with
   |int j=>let⟨t',rfl⟩:=r';show RcAt.str_int i t j t'
   |str j=>let⟨t',rfl⟩:=r';have:=RcAt.str_str (A:=A) (s:=s) i t j t';rwa[show decide (PV.str i=PV.str j)=(i == j) by simp[y2p]]
   |tup js=>let⟨b,its,rfl,p',_⟩:=r';show RcAt.str_tuple i t p' ⋯
   |_=>cases hq
  |tup ps=>
   let⟨a,its,rfl,ta,rs⟩:=r;cases q with
   |int j=>let⟨t',rfl⟩:=r';show RcAt.tuple_int j t' ta ⋯
   |str j=>let⟨t',rfl⟩:=r';show RcAt.tuple_str j t' ta ⋯
   |tup qs=>
    let⟨b,its',rfl,tb,c9⟩:=r';let kp:∀z∈ps,z.ky n=true:=y1.mp hp;let kq:∀z∈qs,z.ky n=true:=y1.mp hq;let l1:=rs.length;let l2:=c9.length;let key:=RcAt.tuples (A:=A) (e:=λj=>match ps[j]?,qs[j]? with|some x,a_ y=>decide (x=y)|_,_=>false) ta tb ⋯ (λj h1 h2=>by
     let fv:j<ps.length:=by simp at h1;omega
     let dg:j<qs.length:=by simp at h2;omega
     let g1:ps[j]?=a_ ps[j]:=by simp[fv]
     let g2:qs[j]?=a_ qs[j]:=by simp[dg]
     let⟨xu,i7,cz⟩:=rs.at g1;let⟨yu,jd,bq⟩:=c9.at g2;let e1:its.toArray[j]=xu:=by simpa using(xt.mp i7).2
     let e2:its'.toArray[j]=yu:=by simpa using(xt.mp jd).2
     rw[e1,e2];simp only[g1,g2];refine tK (ih (kp _ (zp fv)) (kq _ (zp dg)) (show A.units+1+n<cLine by omega) cz bq) (λev=>?_) (λf t e=>?_)
     ·subst ev;rw[HR.one cz bq];show decide_eq_true rfl
     ·subst e;generalize ps[j]=z at cz;cases z with
      |int i=>let⟨_,e⟩:=cz;cases e
      |str i=>let⟨_,e⟩:=cz;cases e
      |tup i=>let⟨_,_,e,_⟩:=cz;cases e
      |_=>exact cz.elim)
    let sz:((za (min its.toArray.size its'.toArray.size)).all (λj=>match ps[j]?,qs[j]? with|some x,a_ y=>decide (x=y)|_,_=>false)&&its.toArray.size == its'.toArray.size)=decide (PV.tup ps=PV.tup qs):=by
     let a1:its.toArray.size=ps.length:=by simp;omega
     let a2:its'.toArray.size=qs.length:=by simp;omega
     rw[a1,a2,y1G];simp only[zg,y1,List.mem_range,beq_iff_eq,decide_eq_true_eq,PV.tup.injEq];constructor
     ·rintro⟨hall,hlen⟩;apply List.ext_getElem hlen;intro i hi aw;have:=hall i ⋯;simpa[hi,aw] using this
     ·rintro rfl;refine⟨λx hx=>?_,rfl⟩;have:x<ps.length:=⋯;simp[this]
    rw[<-sz];show key
   |_=>cases hq
  |_=>cases hp
variable{p:PV}
theorem HR.noflt{h:v_}{v:r_}(r:HR h p v):∀f t,v≠.float f t:=λf t e=>by
 subst e;cases p with
 |int i=>let⟨_,e⟩:=r;cases e
 |str i=>let⟨_,e⟩:=r;cases e
 |tup i=>let⟨_,_,e,_⟩:=r;cases e
 |_=>exact r.elim
theorem LS{q:PV}{v:r_}(hp:p.ky n=true)(hq:q.ky n=true)(hu:A.units+n<cLine)(r:q1r p v)(r':q1r q u):EqAt A s v u (decide (p=q)):=tK (X1 n hp hq hu r r') (λev=>by subst ev;rw[HR.one r r'];show decide_eq_true rfl) r.noflt
theorem Oy:∀(n m:Nat){A:u_}{E:f_ 0}{s:s_}{p:PV}{v:r_}{Q:jn Bool},p.ky n=true->n<=m->q1r p v->Q true s->C_ (eqIsQuiet m v) Q E s:=by
 intro n
 induction n with
 |zero=>
  intro m A E s p v Q hk hm r h;cases p with
  |int i=>let⟨t,rfl⟩:=r;rw[eqIsQuiet_byValue _ rfl];show xw h
  |str i=>let⟨t,rfl⟩:=r;rw[eqIsQuiet_byValue _ rfl];show xw h
  |_=>cases hk
 |succ n ih=>
  intro m A E s p v Q hk hm r h;cases p with
  |int i=>let⟨t,rfl⟩:=r;rw[eqIsQuiet_byValue _ rfl];show xw h
  |str i=>let⟨t,rfl⟩:=r;rw[eqIsQuiet_byValue _ rfl];show xw h
  |tup ps=>
   let⟨a,its,rfl,⟨o,ho,hc,m',hd⟩,rs⟩:=r;let e9:∀q∈ps,q.ky n=true:=y1.mp hk;let hT:s.TypeIs (.ref a) "tuple" := ⟨o,ho,hc⟩;obtain⟨m,rfl⟩:∃j,m=j+1:=⟨m-1,⋯⟩;unfold eqIsQuiet;refine xr (y0M hT F.slot_tuple_eq.lookup (show F_ (isInstance (.ref a) (.type "tuple") >>= _) _ _ s from ?_))
   refine xr (y2b hT isSubtype_tuple_tuple ?_);simp only[Bool.not_true,zb,if_false];refine xr (wpAny_seqItems ho hd (xr (show F_ (forIn its.toArray _ _) _ _ s from ?_)));rw[<-Array.forIn_toList]
   refine y2A _ (λrest r s'=>r.1=b_/\s'=s/\∃left,HRs s.heap left rest/\∀q∈left,q.ky n=true) _ ?_ ?_ _ _ ⟨rfl,rfl,ps,rs,e9⟩
   ·rintro v rest r s' ⟨hr,rfl,left,rl,kl⟩;cases left with
    |nil=>exact rl.elim
    |cons q left=>refine xr (ih m (kl q ye) ⋯ rl.1 ?_);simp only[Bool.not_true,zb,if_false];show xw ⟨rfl,rfl,left,rl.2,λz hz=>kl z (yd _ hz)⟩
   ·rintro⟨r1,r2⟩ s' ⟨hr,rfl,_⟩;simp only at hr;subst hr;show xw h
  |_=>cases hk
def CJ(prog:w_)(w:w4):HeapKind prog w PV where
 is:=λh p a=>p.ky 6=true/\HR h p (.ref a)
 hash:=hsh w
 draws:=drw
 room:=λA=>A.units+6<cLine
 inj:=λx y=>HR.one x.2 y.2
 keeps:=λx ho hd hs=>⟨x.1,HR.keep (λa it p=>LR p ho hd hs) x.2⟩
 pyHash:=λhu x h=>Qw 6 x.1 hu x.2 h
 eqBool:=λhu x y h=>LS x.1 y.1 hu x.2 y.2 _ _ _ _ h
 quiet:=λx h=>Oy 6 8 x.1 ⋯ x.2 h
def dDO(w:w4)(a:td)(ks:z_ (PV×td×V)):HO:=.ext λh=>ks.length<=yo/\(a == y0o)=false/\∃xs:z_ (PV×td×r_),
 Paired (λ(p:PV×td×V)(q:PV×td×r_)=>p.1=q.1/\p.2.1=q.2.1/\RelV p.2.2 q.2.2) ks xs/\
 ∃o es ep,h.get? a=a_ o/\o.ExactDict/\o.data=.dict es ep/\es.toList=xs.map (λx=>(⟨hsh w x.1,.ref x.2.1,x.2.2⟩:y0A))/\(xs.map (·.1)).Nodup
def Ng(kd:Nat)(v d:td):HO:=.ext λh=>match kd with
 |0=>h.IsItemsView v d
 |1=>h.IsValuesView v d
 |_=>∃o,h.get? v=a_ o/\o.cls=.type "dict_keys" /\ o.data=.fields #[.ref d]
inductive MO where
 |lst (xs:z_ PV)
 |dK (kvs:z_ (Key×PV))
 |ins (C:Str) (fs:z_ (Str×PV))
 |dD (kvs:z_ (PV×PV))
 |vw (kd d:Nat)
 |fz (o:MO)
abbrev PH:=z_ MO
abbrev Ev:=z_ (A_ PV)
structure PX where
 cls:Str
 fs:z_ (Str×PV)
inductive Rs(α:Type) where
 |ok (a:α) (h:PH)
 |exc (x:PX) (h:PH)
 |bad
inductive Fl where
 |nx (δ:Ev) (h:PH)
 |rt (p:PV) (h:PH)
 |bk (δ:Ev) (h:PH)
 |ct (δ:Ev) (h:PH)
 |exc (x:PX) (h:PH)
 |bad
abbrev Me:=Ev->PH->Rs PV
abbrev Ms:=Ev->PH->Fl
abbrev Fn:=z_ PV->PH->Rs PV
def Rs.bind{α β:Type}(r:Rs α)(f:α->PH->Rs β):Rs β:=match r with
 |.ok a h=>f a h
 |.exc x h=>.exc x h
 |.bad=>.bad
@[simp]theorem Rs.bind_ok{α β:Type}(a:α)(h:PH)(f:α->PH->Rs β):(Rs.ok a h).bind f=f a h:=rfl
@[simp]theorem Rs.bind_exc{α β:Type}(x:PX)(h:PH)(f:α->PH->Rs β):(Rs.exc x h:Rs α).bind f=.exc x h:=rfl
@[simp]theorem Rs.bind_bad{α β:Type}(f:α->PH->Rs β):(Rs.bad:Rs α).bind f=.bad:=rfl
structure MC where
 K:yb
 cl:Str->A_ td
 bs:z_ Str
 ex:z_ td->Hp->PX->Prop
 w:w4
def SqF(K:yb)(H:Hp)(a:td)(xs:z_ V):Prop:=
 (∃o,H a=a_ (.frz o (.lst xs)))\/
  ∃(o:Obj)(its:q0l 0)(n:Nat),K.lookup a=a_ o/\o.cls=.type "list" /\ o.dict=b_/\o.data=.seq its n/\its.size<=yo/\bH xs its.toList
theorem SqF.sq{xs:z_ V}(h:SqF K H a xs):q1y a xs:=by
 rcases h with⟨o,h⟩|h
 ·show .inl (.inr ⟨o,h⟩)
 ·show .inr h
def Kp(H H':Hp):Prop:=tJ H H'/\∀a o u,H a=a_ (.frz o u)->H' a=a_ (.frz o u)
theorem Kp.refl(H:Hp):Kp H H:=⟨tJ.refl H,λ_ _ _ h=>h⟩
theorem Kp.trans(a:Kp H H1)(b:Kp H1 H2):Kp H H2:=⟨a.1.trans b.1,λc o u h=>b.2 c o u (a.2 c o u h)⟩
theorem Kp.same(s:E8 H H'):Kp H H':=⟨tJ.same s,λ_ _ _ h=>s _ _ h⟩
theorem Kp.new{o:HO}(h:H a=b_):Kp H (Z_ a o):=Kp.same (E8.upd h)
theorem Kp.upd{p:td}{o:HO}(h:CG (H p)):Kp H (Z_ p o):=⟨tJ.upd h,λa ob u q=>by
 let ne:a≠p:=by rintro rfl;rw[q]at h;show h
 rw[bA ne];show q⟩
theorem Kp.lst{H:Hp}{p:td}{o:HO}{xs:z_ V}(h:H p=a_ (.lst xs)):Kp H (L2.upd H p o):=Kp.upd (by rw[h];trivial)
theorem Kp.dK{H:Hp}{p:td}{o:HO}{xs:z_ (Key×V)}(h:H p=a_ (.dK xs)):Kp H (L2.upd H p o):=Kp.upd (by rw[h];trivial)
theorem Kp.sq{xs:z_ V}(t:Kp H H')(h:q1c a xs):SqT K H' a xs:=t.1.sq h
theorem Kp.sf{xs:z_ V}(t:Kp H H')(h:SqF K H a xs):SqF K H' a xs:=by
 rcases h with⟨o,h⟩|h
 ·show .inl ⟨o,t.2 _ _ _ h⟩
 ·show .inr h
section
variable(C:MC)(φ:z_ td)(H:Hp)
mutual
def RV:PV->V->Prop
 |.non,v=>v=.non
 |.bl b,v=>v=.bl b
 |.int i,v=>v=.int i
 |.str x,v=>v=.str x
 |.ty n,v=>v=.ty n
 |.tup ps,v=>∃a vs,v=.ref a/\SqT C.K H a vs/\RVs ps vs
 |.ref n,v=>∃a,v=.ref a/\φ[n]?=a_ a
 |.fl ps,v=>∃a vs,v=.ref a/\SqF C.K H a vs/\RVs ps vs
def RVs:z_ PV->z_ V->Prop
 |[],[]=>True
 |p::ps,v::vs=>RV p v/\RVs ps vs
 |[],_::_=>False
 |_::_,[]=>False
end
def RKv{κ:Type}:z_ (κ×PV)->z_ (κ×V)->Prop:=Paired λp q=>p.1=q.1/\E_ p.2 q.2
def RKd:z_ (PV×PV)->z_ (PV×td×V)->Prop:=Paired λp q=>p.1=q.1/\p.1.ky 6=true/\E_ p.1 (.ref q.2.1)/\E_ p.2 q.2.2
def RO(a:td):MO->Prop
 |.lst ps=>∃vs,H a=a_ (.lst vs)/\G_ ps vs
 |.dK kvs=>∃ks,H a=a_ (.dK ks)/\q0Z kvs ks
 |.ins n fs=>∃c dx ks,C.cl n=a_ c/\H a=a_ (.ins c dx ks)/\q0Z fs ks
 |.dD kvs=>∃ks,H a=a_ (dDO C.w a ks)/\q0V 0
 |.vw kd d=>∃b,φ[d]?=a_ b/\H a=a_ (Ng kd a b)
 |.fz (.dK kvs)=>∃ob ks,H a=a_ (.frz ob (.dK ks))/\q0Z kvs ks
 |.fz (.dD kvs)=>∃ob ks,H a=a_ (.frz ob (dDO C.w a ks))/\q0V 0
 |.fz _=>False
structure RH(h:PH):Prop where
 len:φ.length=h.length
 nd:φ.Nodup
 at':∀(n:Nat)(a:td)(o:MO),φ[n]?=some a->h[n]?=some o->RO C φ H a o
def RE(δ:Ev)(σ:St):Prop:=δ.length=σ.length/\∀(i:Nat)(p:PV),δ[i]?=a_ (a_ p)->∃v,σ[i]?=a_ (a_ v)/\E_ p v
end
theorem lZ{α:Type}{l l':z_ α}(p:l<+:l'){a:α}(h:l[n]?=a_ a):l'[n]?=a_ a:=by let⟨t,rfl⟩:=p;have:=(xt.mp h).1;rw[zw this];show h
def Kq(H H':Hp):Prop:=tJ H H'/\∀a o xs,H a=a_ (.frz o (.lst xs))->H' a=a_ (.frz o (.lst xs))
theorem Kp.q(t:Kp H H'):Kq H H':=⟨t.1,λa o xs h=>t.2 a o _ h⟩
theorem Kq.sq{xs:z_ V}(t:Kq H H')(h:q1c a xs):SqT K H' a xs:=t.1.sq h
theorem Kq.sf{xs:z_ V}(t:Kq H H')(h:SqF K H a xs):SqF K H' a xs:=by
 rcases h with⟨o,h⟩|h
 ·show .inl ⟨o,t.2 _ _ _ h⟩
 ·show .inr h
mutual
theorem RV.monoQ(p:φ<+:φ')(t:Kq H H'):∀{x:PV}{v:V},E_ x v->RV C φ' H' x v
 |.non,_,h=>h
 |.bl _,_,h=>h
 |.int _,_,h=>h
 |.str _,_,h=>h
 |.ty _,_,h=>h
 |.tup _,_,⟨a,vs,e,q,r⟩=>⟨a,vs,e,t.sq q,RVs.monoQ p t r⟩
 |.ref _,_,⟨a,e,q⟩=>⟨a,e,lZ p q⟩
 |.fl _,_,⟨a,vs,e,q,r⟩=>⟨a,vs,e,t.sf q,RVs.monoQ p t r⟩
theorem RVs.monoQ(p:φ<+:φ')(t:Kq H H'):∀{xs:z_ PV}{vs:z_ V},G_ xs vs->RVs C φ' H' xs vs
 |[],[],_=>trivial
 |_::_,_::_,⟨h,r⟩=>⟨RV.monoQ p t h,RVs.monoQ p t r⟩
 |[],_::_,h=>h.elim
 |_::_,[],h=>h.elim
end
variable{C:MC}{φ φ':z_ td}
theorem RV.mono(p:φ<+:φ')(t:Kp H H'){x:PV}(h:E_ x v):RV C φ' H' x v:=RV.monoQ p t.q h
variable{xs:z_ PV}
theorem RVs.mono(p:φ<+:φ')(t:Kp H H')(h:G_ xs vs):RVs C φ' H' xs vs:=RVs.monoQ p t.q h
theorem RVs.length:∀{xs:z_ PV}{vs:z_ V},G_ xs vs->xs.length=vs.length
 |[],[],_=>rfl
 |_::_,_::_,⟨_,r⟩=>by simp[RVs.length r]
 |[],_::_,h=>h.elim
 |_::_,[],h=>h.elim
theorem RVs.get:∀{xs:z_ PV}{vs:z_ V}{i:Nat}{v:V},G_ xs vs->vs[i]?=a_ v->∃x,xs[i]?=a_ x/\E_ x v
 |[],[],_,_,_,e=>by simp at e
 |x::_,w::_,0,v,⟨h,_⟩,e=>by
  have:w=v:=by simpa using e
  subst this;show⟨x,rfl,h⟩
 |_::xs,_::vs,i+1,v,⟨_,r⟩,e=>by
  let⟨x,h1,h2⟩:=RVs.get (xs:=xs) (vs:=vs) (i:=i) (v:=v) r (k_ e);show⟨x,k_ h1,h2⟩
 |[],_::_,_,_,h,_=>h.elim
 |_::_,[],_,_,h,_=>h.elim
theorem RVs.at:∀{xs:z_ PV}{vs:z_ V}{i:Nat}{x:PV},G_ xs vs->xs[i]?=a_ x->∃v,vs[i]?=a_ v/\E_ x v
 |[],[],_,_,_,e=>by simp at e
 |x::_,w::_,0,x',⟨h,_⟩,e=>by
  have:x=x':=by simpa using e
  subst this;show⟨w,rfl,h⟩
 |_::xs,_::vs,i+1,x,⟨_,r⟩,e=>by
  let⟨v,h1,h2⟩:=RVs.at (xs:=xs) (vs:=vs) (i:=i) (x:=x) r (k_ e);show⟨v,k_ h1,h2⟩
 |[],_::_,_,_,h,_=>h.elim
 |_::_,[],_,_,h,_=>h.elim
theorem RVs.append:∀{xs ys:z_ PV}{vs us:z_ V},G_ xs vs->G_ ys us->G_ (xs++ys) (vs++us)
 |[],_,[],_,_,h=>h
 |_::_,_,_::_,_,⟨h,r⟩,h'=>⟨h,RVs.append r h'⟩
 |[],_,_::_,_,h,_=>h.elim
 |_::_,_,[],_,h,_=>h.elim
theorem RVs.snoc{x:PV}(r:G_ xs vs)(h:E_ x v):G_ (xs++[x]) (vs++[v]):=r.append ⟨h,trivial⟩
theorem RVs.drop:∀{xs:z_ PV}{vs:z_ V}(n:Nat),G_ xs vs->G_ (xs.drop n) (vs.drop n)
 |_,_,0,h=>h
 |[],[],_+1,_=>trivial
 |_::_,_::_,n+1,⟨_,r⟩=>RVs.drop n r
 |[],_::_,_+1,h=>h.elim
 |_::_,[],_+1,h=>h.elim
theorem RVs.take:∀{xs:z_ PV}{vs:z_ V}(n:Nat),G_ xs vs->G_ (xs.take n) (vs.take n)
 |[],[],0,_=>trivial
 |_::_,_::_,0,_=>trivial
 |[],[],_+1,_=>trivial
 |_::_,_::_,n+1,⟨h,r⟩=>⟨h,RVs.take n r⟩
 |[],_::_,_,h=>h.elim
 |_::_,[],_,h=>h.elim
theorem RVs.set{x:PV}(h:E_ x v):∀{xs:z_ PV}{vs:z_ V}(n:Nat),G_ xs vs->G_ (xs.set n x) (vs.set n v)
 |[],[],_,_=>trivial
 |_::_,_::_,0,⟨_,r⟩=>⟨h,r⟩
 |_::_,_::_,n+1,⟨q,r⟩=>⟨q,RVs.set h n r⟩
 |[],_::_,_,h=>h.elim
 |_::_,[],_,h=>h.elim
theorem RVs.reverse:∀{xs:z_ PV}{vs:z_ V},G_ xs vs->G_ xs.reverse vs.reverse
 |[],[],_=>trivial
 |_::_,_::_,⟨h,r⟩=>by simp only[List.reverse_cons];show(RVs.reverse r).append ⟨h,trivial⟩
 |[],_::_,h=>h.elim
 |_::_,[],h=>h.elim
theorem RKv.monoQ{κ:Type}(p:φ<+:φ')(t:Kq H H'){x:z_ (κ×PV)}{v:z_ (κ×V)}(h:q0Z x v):RKv C φ' H' x v:=Paired.mapP h λ_ _ q=>⟨q.1,q.2.monoQ p t⟩
theorem RKd.monoQ(p:φ<+:φ')(t:Kq H H'){x:z_ (PV×PV)}{v:z_ (PV×td×V)}(h:RKd C φ H x v):RKd C φ' H' x v:=Paired.mapP h λ_ _ q=>⟨q.1,q.2.1,q.2.2.1.monoQ p t,q.2.2.2.monoQ p t⟩
theorem RKv.mono{κ:Type}(p:φ<+:φ')(t:Kp H H'){x:z_ (κ×PV)}{v:z_ (κ×V)}(h:q0Z x v):RKv C φ' H' x v:=Paired.mapP h λ_ _ q=>⟨q.1,q.2.mono p t⟩
theorem RKd.mono(p:φ<+:φ')(t:Kp H H'){x:z_ (PV×PV)}{v:z_ (PV×td×V)}(h:RKd C φ H x v):RKd C φ' H' x v:=Paired.mapP h λ_ _ q=>⟨q.1,q.2.1,q.2.2.1.mono p t,q.2.2.2.mono p t⟩
variable{δ:Ev}
theorem RE.mono(p:φ<+:φ')(t:Kp H H')(h:q0q 0):RE C φ' H' δ σ:=⟨h.1,λi x e=>let ⟨v,q,r⟩:=h.2 i x e;⟨v,q,r.mono p t⟩⟩
theorem RE.set{x:PV}(h:q0q 0)(r:E_ x v)(i:Nat):RE C φ H (δ.set i (a_ x)) (σ.set i (a_ v)):=by
 refine⟨by rw[y0k,y0k];show h.1,λj p e=>?_⟩;by_cases hj:i=j
 ·subst hj;by_cases hl:i<δ.length
  ·rw[y0g hl]at e;cases e
   show⟨v,by rw[y0g (by rw[<-h.1];show hl)],r⟩
  ·rw[y0U (by rw[y0k];omega)]at e;cases e
 ·rw[y0i hj]at e;rw[y0i hj];show h.2 j p e
variable{o:MO}
theorem RO.stayQ(p:φ<+:φ')(t:Kq H H')(e:H' a=H a)(h:RO C φ H a o):RO C φ' H' a o:=by
 cases o with
 |lst ps=>let⟨vs,q,r⟩:=h;show⟨vs,e.trans q,r.monoQ p t⟩
 |dK ps=>let⟨vs,q,r⟩:=h;show⟨vs,e.trans q,r.monoQ p t⟩
 |ins n fs=>let⟨c,dx,ks,hc,q,r⟩:=h;show⟨c,dx,ks,hc,e.trans q,r.monoQ p t⟩
 |dD kvs=>let⟨ks,q,r⟩:=h;show⟨ks,e.trans q,r.monoQ p t⟩
 |vw kd d=>let⟨b,hb,q⟩:=h;show⟨b,lZ p hb,e.trans q⟩
 |fz o=>
  cases o with
  |dK kvs=>let⟨ob,ks,q,r⟩:=h;show⟨ob,ks,e.trans q,r.monoQ p t⟩
  |dD kvs=>let⟨ob,ks,q,r⟩:=h;show⟨ob,ks,e.trans q,r.monoQ p t⟩
  |_=>exact h.elim
theorem RO.stay(p:φ<+:φ')(t:Kp H H')(e:H' a=H a)(h:RO C φ H a o):RO C φ' H' a o:=h.stayQ p t.q e
theorem RO.some(h:RO C φ H a o):∃u,H a=a_ u:=by
 cases o with
 |lst ps=>let⟨vs,q,r⟩:=h;show⟨_,q⟩
 |dK ps=>let⟨vs,q,r⟩:=h;show⟨_,q⟩
 |ins n fs=>let⟨c,dx,ks,hc,q,r⟩:=h;show⟨_,q⟩
 |dD kvs=>let⟨ks,q,r⟩:=h;show⟨_,q⟩
 |vw kd d=>let⟨b,hb,q⟩:=h;show⟨_,q⟩
 |fz o=>
  cases o with
  |dK kvs=>let⟨ob,ks,q,r⟩:=h;show⟨_,q⟩
  |dD kvs=>let⟨ob,ks,q,r⟩:=h;show⟨_,q⟩
  |_=>exact h.elim
variable{h:PH}
theorem RH.get(r:K_ h)(e:h[n]?=a_ o):∃a,φ[n]?=a_ a/\RO C φ H a o:=by
 let hn:=(xt.mp e).1;have:n<φ.length:=by rw[r.len];show hn
 show⟨φ[n],by simp[this],r.at' n _ o (by simp[this]) e⟩
theorem RH.tracked(r:K_ h)(e:φ[n]?=a_ a):∃u,H a=a_ u:=by
 let hn:=(xt.mp e).1;have:n<h.length:=by rw[<-r.len];show hn
 show(r.at' n a h[n] e (by simp[this])).some
theorem RH.aside(r:K_ h){o:HO}(e:H a=b_):RH C φ (Z_ a o) h:=⟨r.len,r.nd,λn b ob h1 h2=>by let q:=r.at' n b ob h1 h2;let⟨u,hu⟩:=q.some;show q.stay (yk) (Kp.new e) (bA (iZ hu e))⟩
theorem RH.new(r:K_ h){u:HO}(e:H a=b_)(q:RO C (φ++[a]) (Z_ a u) a o):RH C (φ++[a]) (Z_ a u) (h++[o]):=by
 refine⟨by simp[r.len],?_,λn b ob h1 h2=>?_⟩
 ·rw[y1c];refine⟨r.nd,by simp,λx hx y hy z=>?_⟩;rw[y0]at hy;subst hy z;let⟨n,hn⟩:=y1L.mp hx;let⟨u',hu⟩:=r.tracked hn;rw[e]at hu;cases hu
 ·by_cases hn:n<φ.length
  ·rw[zw hn]at h1;rw[zw (by rw[<-r.len];show hn)]at h2;let q':=r.at' n b ob h1 h2;let⟨u',hu⟩:=q'.some;show q'.stay (zy _ _) (Kp.new e) (bA (iZ hu e))
  ·let mz:n=φ.length:=by have:=(xt.mp h1).1;simp at this;omega
   subst mz;rw[y0E (yg _),Nat.sub_self]at h1;rw[r.len,y0E (yg _),Nat.sub_self]at h2;cases h1
   cases h2
   show q
theorem RH.write(r:K_ h){u:HO}(e:φ[n]?=a_ a)(t:CG (H a))(q:RO C φ (Z_ a u) a o):RH C φ (Z_ a u) (h.set n o):=by
 refine⟨by rw[y0k];show r.len,r.nd,λm b ob h1 h2=>?_⟩;by_cases hm:n=m
 ·subst hm;rw[e]at h1;cases h1;let hl:n<h.length:=by rw[<-r.len];show(xt.mp e).1
  rw[y0g hl]at h2;cases h2
  show q
 ·rw[y0i hm]at h2;let hb:b≠a:=λz=>by subst z;show hm ((List.getElem?_inj (xt.mp e).1 r.nd).mp (e.trans h1.symm))
  show(r.at' m b ob h1 h2).stay yk (Kp.upd t) (bA hb)
section
variable(C:MC)(φ:z_ td)(H:Hp)
def post(r:Rs PV)(Q:VK):Prop:=match r with
 |.ok p h=>∀φ' v H',φ<+:φ'->Kp H H'->q0u h->RV C φ' H' p v->Q v H'
 |.exc x h=>∀φ' H',φ<+:φ'->Kp H H'->q0u h->C.ex φ' H' x
 |.bad=>False
def eU(r:Rs Bool)(Q:Bool->Hp->Prop):Prop:=match r with
 |.ok b h=>∀φ' H',φ<+:φ'->Kp H H'->q0u h->Q b H'
 |.exc x h=>∀φ' H',φ<+:φ'->Kp H H'->q0u h->C.ex φ' H' x
 |.bad=>False
def postA(r:Rs (z_ PV))(Q:z_ V->Hp->Prop):Prop:=match r with
 |.ok ps h=>∀φ' vs H',φ<+:φ'->Kp H H'->q0u h->RVs C φ' H' ps vs->Q vs H'
 |.exc x h=>∀φ' H',φ<+:φ'->Kp H H'->q0u h->C.ex φ' H' x
 |.bad=>False
def eV(r:Fl)(D:Ends):Prop:=match r with
 |.nx δ h=>∀φ' σ H',φ<+:φ'->Kp H H'->q0u h->RE C φ' H' δ σ->D.nx σ H'
 |.rt p h=>∀φ' v H',φ<+:φ'->Kp H H'->q0u h->RV C φ' H' p v->D.rt v H'
 |.bk δ h=>∀φ' σ H',φ<+:φ'->Kp H H'->q0u h->RE C φ' H' δ σ->D.bk σ H'
 |.ct δ h=>∀φ' σ H',φ<+:φ'->Kp H H'->q0u h->RE C φ' H' δ σ->D.ct σ H'
 |.exc x h=>∀φ' H',φ<+:φ'->Kp H H'->q0u h->C.ex φ' H' x
 |.bad=>False
end
variable{φ1:z_ td}
theorem post.weak{r:Rs PV}{Q:VK}(p:φ<+:φ1)(t:Kp H H1)(h:P_ r Q):post C φ1 H1 r Q:=by
 cases r with
 |ok a h'=>exact λφ' v H' p' t'=>h φ' v H' (p.trans p') (t.trans t')
 |exc a h'=>exact λφ' H' p' t'=>h φ' H' (p.trans p') (t.trans t')
 |bad=>exact h
theorem eU.weak{r:Rs Bool}{Q:Bool->Hp->Prop}(p:φ<+:φ1)(t:Kp H H1)(h:eU C φ H r Q):eU C φ1 H1 r Q:=by
 cases r with
 |ok a h'=>exact λφ' H' p' t'=>h φ' H' (p.trans p') (t.trans t')
 |exc a h'=>exact λφ' H' p' t'=>h φ' H' (p.trans p') (t.trans t')
 |bad=>exact h
theorem postA.weak{r:Rs (z_ PV)}{Q:z_ V->Hp->Prop}(p:φ<+:φ1)(t:Kp H H1)(h:postA C φ H r Q):postA C φ1 H1 r Q:=by
 cases r with
 |ok a h'=>exact λφ' v H' p' t'=>h φ' v H' (p.trans p') (t.trans t')
 |exc a h'=>exact λφ' H' p' t'=>h φ' H' (p.trans p') (t.trans t')
 |bad=>exact h
theorem eV.weak{r:Fl}{D:Ends}(p:φ<+:φ1)(t:Kp H H1)(h:eV C φ H r D):eV C φ1 H1 r D:=by
 cases r with
 |nx a h'=>exact λφ' v H' p' t'=>h φ' v H' (p.trans p') (t.trans t')
 |rt a h'=>exact λφ' v H' p' t'=>h φ' v H' (p.trans p') (t.trans t')
 |bk a h'=>exact λφ' v H' p' t'=>h φ' v H' (p.trans p') (t.trans t')
 |ct a h'=>exact λφ' v H' p' t'=>h φ' v H' (p.trans p') (t.trans t')
 |exc a h'=>exact λφ' H' p' t'=>h φ' H' (p.trans p') (t.trans t')
 |bad=>exact h
theorem post.imp{r:Rs PV}{Q Q':VK}(h:P_ r Q)(i:∀v H',Q v H'->Q' v H'):P_ r Q':=by
 cases r with
 |ok a h'=>exact λφ' v H' p t rh rv=>i v H' (h φ' v H' p t rh rv)
 |exc a h'=>exact h
 |bad=>exact h
theorem post.bind{r:Rs PV}{f:PV->PH->Rs PV}{Q:VK}(h:P_ (r.bind f) Q):P_ r λv H1=>∃φ1 p h1,φ<+:φ1/\Kp H H1/\q0z 0/\RV C φ1 H1 p v/\post C φ1 H1 (f p h1) Q:=by
 cases r with
 |ok a h'=>exact λφ' v H' p t rh rv=>⟨φ',a,h',p,t,rh,rv,post.weak p t h⟩
 |exc a h'=>exact h
 |bad=>exact h
theorem post.bindB{r:Rs PV}{f:PV->PH->Rs Bool}{Q:Bool->Hp->Prop}(h:eU C φ H (r.bind f) Q):P_ r λv H1=>∃φ1 p h1,φ<+:φ1/\Kp H H1/\q0z 0/\RV C φ1 H1 p v/\eU C φ1 H1 (f p h1) Q:=by
 cases r with
 |ok a h'=>exact λφ' v H' p t rh rv=>⟨φ',a,h',p,t,rh,rv,eU.weak p t h⟩
 |exc a h'=>exact h
 |bad=>exact h
theorem eU.bind{r:Rs Bool}{f:Bool->PH->Rs PV}{Q:VK}(h:P_ (r.bind f) Q):eU C φ H r λb H1=>∃φ1 h1,φ<+:φ1/\Kp H H1/\q0z 0/\post C φ1 H1 (f b h1) Q:=by
 cases r with
 |ok a h'=>exact λφ' H' p t rh=>⟨φ',h',p,t,rh,post.weak p t h⟩
 |exc a h'=>exact h
 |bad=>exact h
theorem eU.bindB{r:Rs Bool}{f:Bool->PH->Rs Bool}{Q:Bool->Hp->Prop}(h:eU C φ H (r.bind f) Q):eU C φ H r λb H1=>∃φ1 h1,φ<+:φ1/\Kp H H1/\q0z 0/\eU C φ1 H1 (f b h1) Q:=by
 cases r with
 |ok a h'=>exact λφ' H' p t rh=>⟨φ',h',p,t,rh,eU.weak p t h⟩
 |exc a h'=>exact h
 |bad=>exact h
theorem postA.bind{r:Rs (z_ PV)}{f:z_ PV->PH->Rs PV}{Q:VK}(h:P_ (r.bind f) Q):postA C φ H r λvs H1=>∃φ1 ps h1,φ<+:φ1/\Kp H H1/\q0z 0/\RVs C φ1 H1 ps vs/\post C φ1 H1 (f ps h1) Q:=by
 cases r with
 |ok a h'=>exact λφ' v H' p t rh rv=>⟨φ',a,h',p,t,rh,rv,post.weak p t h⟩
 |exc a h'=>exact h
 |bad=>exact h
theorem postA.bindA{r:Rs (z_ PV)}{f:z_ PV->PH->Rs (z_ PV)}{Q:z_ V->Hp->Prop}(h:postA C φ H (r.bind f) Q):postA C φ H r λvs H1=>∃φ1 ps h1,φ<+:φ1/\Kp H H1/\q0z 0/\RVs C φ1 H1 ps vs/\postA C φ1 H1 (f ps h1) Q:=by
 cases r with
 |ok a h'=>exact λφ' v H' p t rh rv=>⟨φ',a,h',p,t,rh,rv,postA.weak p t h⟩
 |exc a h'=>exact h
 |bad=>exact h
theorem post.bindA{r:Rs PV}{f:PV->PH->Rs (z_ PV)}{Q:z_ V->Hp->Prop}(h:postA C φ H (r.bind f) Q):P_ r λv H1=>∃φ1 p h1,φ<+:φ1/\Kp H H1/\q0z 0/\RV C φ1 H1 p v/\postA C φ1 H1 (f p h1) Q:=by
 cases r with
 |ok a h'=>exact λφ' v H' p t rh rv=>⟨φ',a,h',p,t,rh,rv,postA.weak p t h⟩
 |exc a h'=>exact h
 |bad=>exact h
theorem post.val{Q:VK}(q:P_ (.ok p h) Q)(rh:K_ h)(rv:E_ p v):Q v H:=q φ v H yk (Kp.refl H) rh rv
structure Cxt(C:MC)(k:Nat)(X:Cx):Prop where
 K:X.K=C.K
 calm:X.calm=true
 room:lV k X.A
 bn:∀x∈C.bs,X.mg x=none
 w:X.w=C.w
theorem Cxt.hu{k:Nat}(c:q0j X):X.A.units+1<cLine:=YA c.room
theorem Cxt.hu64{k:Nat}(c:q0j X):X.A.units+64<cLine:=c.room.units
theorem Cxt.comp{k:Nat}(c:q0j X)(sc:Scope)(N:z_ Str)(a:td)(fp:z_ td)(s:s_)(H:Hp):q0j (W_ a fp s H):=⟨c.K,c.calm,c.room,c.bn,c.w⟩
section
variable(C:MC)
def rd(m:Me):TE:=λσ H Q=>∃φ δ h,K_ h/\q0q 0/\P_ (m δ h) Q
def rdB(m:Ev->PH->Rs Bool):TT:=λσ H Q=>∃φ δ h,K_ h/\q0q 0/\eU C φ H (m δ h) Q
def rdA(m:Ev->PH->Rs (z_ PV)):TA:=λσ H Q=>∃φ δ h,K_ h/\q0q 0/\postA C φ H (m δ h) Q
def rdS(m:Ms):TS:=λD σ H=>∃φ δ h,K_ h/\q0q 0/\eV C φ H (m δ h) D
def r2(g:PV->PV->PH->Rs PV):R2:=λx y H Q=>∃φ h p q,K_ h/\E_ p x/\E_ q y/\P_ (g p q h) Q
def r1(g:PV->PH->Rs PV):V->Hp->VK->Prop:=λx H Q=>∃φ h p,K_ h/\E_ p x/\P_ (g p h) Q
def rL(g:z_ PV->PH->Rs PV):z_ V->Hp->VK->Prop:=λxs H Q=>∃φ h ps,K_ h/\G_ ps xs/\P_ (g ps h) Q
end
variable{C:MC}{k:Nat}{X:Cx}
def SE(C:MC)(k:Nat)(X:Cx)(e:x_)(m:Me):Prop:=q0j X->PE X e (rd C m)
def ST(C:MC)(k:Nat)(X:Cx)(e:x_)(m:Ev->PH->Rs Bool):Prop:=q0j X->PT X e (rdB C m)
def SA(C:MC)(k:Nat)(X:Cx)(es:z_ x_)(m:Ev->PH->Rs (z_ PV)):Prop:=q0j X->PA X es (rdA C m)
def SSt(C:MC)(k:Nat)(X:Cx)(st:y_)(m:Ms):Prop:=q0j X->PS X st (rdS C m)
def SSs(C:MC)(k:Nat)(X:Cx)(st:z_ y_)(m:Ms):Prop:=q0j X->PSs X st (rdS C m)
def OpS(C:MC)(k:Nat)(X:Cx)(f:r_->r_->Sem r_)(g:PV->PV->PH->Rs PV):Prop:=q0j X->q0C f (r2 C g)
def Av(C:MC)(k:Nat)(X:Cx)(f:r_)(g:z_ PV->PH->Rs PV):Prop:=q0j X->gQ X f (rL C g)
def Ib:Ev->Nat->A_ PV
 |[],_=>b_
 |x::_,0=>x
 |_::r,n+1=>Ib r n
@[simp]theorem Bv(x:A_ PV)(r:Ev):Ib (x::r) 0=x:=(rfl)
@[simp]theorem Oz(x:A_ PV)(r:Ev)(n:Nat):Ib (x::r) (n+1)=Ib r n:=(rfl)
theorem Er:∀{δ:Ev}{i:Nat}{p:PV},Ib δ i=a_ p->δ[i]?=a_ (a_ p)
 |[],_,_,h=>by cases h
 |x::_,0,p,h=>by let h':x=a_ p:=h;simp[h']
 |_::r,n+1,p,h=>by rw[y0X];show Er (δ:=r) (i:=n) h
def mV(i:Nat):Me:=λδ h=>match Ib δ i with
 |some p=>.ok p h
 |none=>.bad
def mC(p:PV):Me:=λ_ h=>.ok p h
theorem aA(i:Nat)(hN:X.N[i]?=a_ x:=by rfl)(hv:Vis X.env.scope x:=by first|exact Or.inl rfl|exact Or.inr (Or.inl rfl)|exact Or.inr (Or.inr rfl))(hd:(x == ("__debug__" : Str))=false:=by decide)(fj:(x == ("__classdict__" : Str))=false:=by decide):I_ (.Name x pos) (mV i):=λ_=>by
 refine(PK hN hv hd fj).imp λσ H Q h=>?_;let⟨φ,δ,h,rh,re,p⟩:=h;unfold mV at p;cases e:Ib δ i with
 |none=>rw[e]at p;show p.elim
 |some x=>rw[e]at p;let⟨v,hv,rv⟩:=re.2 i x (Er e);show⟨v,hv,p.val rh rv⟩
theorem aM{i j pos}:I_ (.Constant (.int i) j pos) (mC (.int i)):=λ_=>W2.imp λσ H Q ⟨φ,δ,h,rh,re,p⟩=>p.val rh rfl
theorem U4{i j pos}:I_ (.Constant (.bool i) j pos) (mC (.bl i)):=λ_=>Yg.imp λσ H Q ⟨φ,δ,h,rh,re,p⟩=>p.val rh rfl
theorem Es{j pos}:I_ (.Constant .none j pos) (mC .non):=λ_=>W3.imp λσ H Q ⟨φ,δ,h,rh,re,p⟩=>p.val rh rfl
theorem bR{i j pos}:I_ (.Constant (.str i) j pos) (mC (.str i)):=λ_=>W4.imp λσ H Q ⟨φ,δ,h,rh,re,p⟩=>p.val rh rfl
theorem Et{n:String}(hv:y1J x=a_ (.type n))(hb:x∈C.bs:=by decide)(hg:Gl X x:=by rfl)(hn:x≠"__name__" := by decide)(hd:(x == ("__debug__" : Str))=false:=by decide):I_ (.Name x pos) (mC (.ty n)):=λc=>(Tf (v:=.ty n) hg (c.bn x hb) hv rfl hn hd).imp λσ H Q ⟨φ,δ,h,rh,re,p⟩=>p.val rh rfl
def aE(g:PV->PV->PH->Rs PV)(ma mb:Me):Me:=λδ h=>(ma δ h).bind λx h1=>(mb δ h1).bind λy h2=>g x y h2
variable{ma mb:Me}
theorem Nh{g:PV->PV->PH->Rs PV}{Q:VK}(h:rd C (aE g ma mb) σ H Q):tOp (r2 C g) (rd C ma) (rd C mb) σ H Q:=by let⟨φ,δ,h,rh,re,p⟩:=h;refine⟨φ,δ,h,rh,re,(post.bind p).imp ?_⟩;rintro v H1 ⟨φ1,x,h1,p1,t1,af,ag,q1⟩;refine⟨φ1,δ,h1,af,U_ 0,(post.bind q1).imp ?_⟩;rintro u H2 ⟨φ2,y,h2,p2,t2,ao,cf,q2⟩;show⟨φ2,h2,x,y,ao,ag.mono p2 t2,cf,q2⟩
variable{op:CmpOp}
section
variable{a b:x_}{g:PV->PV->PH->Rs PV}
theorem bI{op:Operator}(ho:q0o (y0Q op) g)(ha:I_ a ma)(hb:I_ b mb):I_ (.BinOp a op b pos) (aE g ma mb):=λc=>(Yn (ho c) (ha c) (hb c)).imp λσ H Q h=>Nh h
theorem GX(ho:q0o (zc op) g)(ha:I_ a ma)(hb:I_ b mb)(hm:behindInMarks op b=false:=by first|exact PY _|rfl):I_ (.Compare a [op] [b] pos) (aE g ma mb):=λc=>(Tr (ho c) (ha c) (hb c) hm).imp λσ H Q h=>Nh h
def mUn(g:PV->PH->Rs PV)(ma:Me):Me:=λδ h=>(ma δ h).bind g
end
def cB(h:PH)(n:Nat):A_ (z_ PV):=match h[n]? with
 |some (.lst xs)=>a_ xs
 |_=>b_
theorem gR(rh:K_ h)(e:cB h n=a_ xs):∃a vs,φ[n]?=a_ a/\SqL C.K H a vs/\G_ xs vs:=by
 unfold cB at e;cases q:h[n]? with
 |none=>rw[q]at e;cases e
 |some o=>
  rw[q]at e;let⟨a,ha,ro⟩:=rh.get q;cases o with
  |lst ys=>cases e;let⟨vs,q',r⟩:=ro;show⟨a,vs,ha,SqL.of q',r⟩
  |_=>cases e
def iU(h:PH)(n:Nat):A_ (z_ PV):=match h[n]? with
 |some (.lst xs)=>a_ xs
 |_=>b_
theorem sH(e:iU h n=a_ xs):h[n]?=a_ (.lst xs):=by
 unfold iU at e;cases q:h[n]? with
 |none=>rw[q]at e;cases e
 |some o=>
  rw[q]at e;cases o with
  |lst ys=>cases e;rfl
  |_=>cases e
def sI(x:PV)(h:PH):A_ (z_ PV):=match x with
 |.ref n=>cB h n
 |.fl xs=>a_ xs
 |_=>b_
theorem Aw{x:PV}(rh:K_ h)(rv:E_ x v)(e:sI x h=a_ xs):∃a vs,v=.ref a/\SqL C.K H a vs/\G_ xs vs:=by
 cases x with
 |ref n=>let⟨a,rfl,ha⟩:=rv;let⟨a2,vs,aq,sa,ra⟩:=gR rh e;rw[ha]at aq;cases aq;show⟨a,vs,rfl,sa,ra⟩
 |fl ys=>
  cases e
  let⟨a,vs,rfl,sa,ra⟩:=rv;show⟨a,vs,rfl,sa.sq,ra⟩
 |_=>cases e
def VL:z_ PV->Bool
 |[]=>true
 |_::_=>false
def Qx:PV->PV->PH->Rs PV:=λx y h=>match x,y with
 |.int i,.int j=>.ok (.int (i+j)) h
 |.str i,.str j=>if i.length+j.length<=yo then .ok (.str (i++j)) h else .bad
 |.tup xs,.tup ys=>if VL xs=false/\xs.length+ys.length<=yo then .ok (.tup (xs++ys)) h else .bad
 |.ref a,.ref b=>match iU h a,iU h b with
  |some xs,a_ ys=>if xs.length+ys.length<=yo then .ok (.ref h.length) (h++[.lst (xs++ys)]) else .bad
  |_,_=>.bad
 |_,_=>.bad
theorem post.ite{c:Prop}[Decidable c]{r:Rs PV}{Q:VK}(h:P_ (if c then r else .bad) Q):c/\P_ r Q:=by
 by_cases hc:c
 ·rw[if_pos hc]at h;show⟨hc,h⟩
 ·rw[if_neg hc]at h;show h.elim
theorem post.lnew{Q:VK}(q:P_ (.ok (.ref h.length) (h++[.lst xs])) Q)(rh:K_ h)(r:G_ xs vs){p:td}(hp:H p=b_):Q (.ref p) (Z_ p (.lst vs)):=q (φ++[p]) (.ref p) _ (zy _ _) (Kp.new hp) (rh.new hp ⟨vs,bP,r.mono (zy _ _) (Kp.new hp)⟩) ⟨p,rfl,by rw[<-rh.len];simp⟩
theorem post.tnew{Q:VK}(q:P_ (.ok (.tup xs) h) Q)(rh:K_ h)(r:G_ xs vs){p:td}(hp:H p=b_):Q (.ref p) (Z_ p (.tup vs)):=q φ (.ref p) _ yk (Kp.new hp) (rh.aside hp) ⟨p,vs,rfl,SqT.of bP,r.mono yk (Kp.new hp)⟩
theorem post.lset{ws:z_ V}{Q:VK}(q:P_ (.ok p (h.set n (.lst xs))) Q)(rh:K_ h)(e:φ[n]?=a_ a)(hl:H a=a_ (.lst ws))(r:G_ xs vs)(rv:E_ p v):Q v (Z_ a (.lst vs)):=q φ v _ yk (Kp.lst hl) (rh.write e (by rw[hl];trivial) ⟨vs,bP,r.mono yk (Kp.lst hl)⟩) (rv.mono yk (Kp.lst hl))
theorem Qy(r:G_ xs vs)(h:VL xs=false):vs≠[]:=by
 cases xs with
 |nil=>cases h
 |cons x xs=>
  cases vs with
  |nil=>exact r.elim
  |cons=>intro z;cases z
theorem YO:q0o (y0Q .Add) Qx:=λc=>(TQ C.K c.K).imp λx y H Q h=>by
 let⟨φ,h,p,q,rh,rx,ry,po⟩:=h;unfold Qx at po;cases p with
 |int i=>
  cases q with
  |int j=>cases rx;cases ry;show R_ rfl
  |_=>exact po.elim
 |str i=>
  cases q with
  |str j=>cases rx;cases ry;show⟨po.ite.1,po.ite.2.val rh rfl⟩
  |_=>exact po.elim
 |tup xs=>
  cases q with
  |tup ys=>let⟨a,vs,rfl,sa,ra⟩:=rx;let⟨b,us,rfl,sb,rb⟩:=ry;let⟨⟨h1,h2⟩,po⟩:=po.ite;refine .inr ⟨a,b,vs,us,rfl,rfl,sa,sb,Qy ra h1,by rw[<-ra.length,<-rb.length];show h2,λz=>?_,λz p hp=>po.tnew rh (ra.append rb) hp⟩;subst z;let e:ys=[]:=List.eq_nil_of_length_eq_zero rb.length;subst e;show R_ ⟨a,vs,rfl,sa,by rw[y1f];show ra⟩
  |_=>exact po.elim
 |ref n=>
  cases q with
  |ref m=>
   let⟨a,rfl,ha⟩:=rx;let⟨b,rfl,hb⟩:=ry;dsimp only at po;cases e1:iU h n with
   |none=>rw[e1]at po;show po.elim
   |some xs=>
    cases e2:iU h m with
    |none=>rw[e1,e2]at po;show po.elim
    |some ys=>rw[e1,e2]at po;let⟨vs,h1,r1⟩:=q0h (sH e1);let⟨us,h2,r2⟩:=rh.at' m b _ hb (sH e2);let⟨hz,po⟩:=po.ite;show .inl ⟨a,b,vs,us,rfl,rfl,h1,h2,by rw[<-r1.length,<-r2.length];show hz,λp hp=>po.lnew rh (r1.append r2) hp⟩
  |_=>exact po.elim
 |_=>exact po.elim
def vInt(P:Int->Int->Prop)[∀i j,Decidable (P i j)](f:Int->Int->Int):PV->PV->PH->Rs PV:=λx y h=>match x,y with
 |.int i,.int j=>if P i j then .ok (.int (f i j)) h else .bad
 |_,_=>.bad
theorem Ni{P:Int->Int->Prop}[∀i j,Decidable (P i j)](ho:q0C f (GM P g)):q0o f (vInt P g):=λc=>ho.imp λx y H Q h=>by
 let⟨φ,h,p,q,rh,rx,ry,po⟩:=h;unfold vInt at po;cases p with
 |int i=>
  cases q with
  |int j=>cases rx;cases ry;show⟨po.ite.1,po.ite.2.val rh rfl⟩
  |_=>exact po.elim
 |_=>exact po.elim
noncomputable instance(i j:Int):Decidable (Jx i j):=y0Z _
noncomputable instance(i j:Int):Decidable (PU i j):=y0Z _
noncomputable instance(i j:Int):Decidable (O5 i j):=y0Z _
def Ic:PV->PV->PH->Rs PV:=λx y h=>match x,y with
 |.int i,.int j=>.ok (.int (i-j)) h
 |_,_=>.bad
theorem Qz:q0o (y0Q .Sub) Ic:=λc=>TR.imp λx y H Q h=>by
 let⟨φ,h,p,q,rh,rx,ry,po⟩:=h;unfold Ic at po;cases p with
 |int i=>
  cases q with
  |int j=>cases rx;cases ry;show R_ rfl
  |_=>exact po.elim
 |_=>exact po.elim
noncomputable abbrev Ie:=vInt Jx λi j=>i*j
noncomputable abbrev G3:=vInt PU λi j=>i/j
abbrev fF:=vInt (λ_ j=>0<j) λi j=>i%j
noncomputable abbrev OA:=vInt O5 λi j=>i ^ j.toNat
theorem Nj:q0o (y0Q .Mult) Ie:=Ni TU
theorem JN:q0o (y0Q .FloorDiv) G3:=Ni TV
theorem gW:q0o (y0Q .Mod) fF:=Ni TX
theorem QA:q0o (y0Q .Pow) OA:=Ni TY
variable{C:MC}{k:Nat}{X:Cx}
def OB(f:Int->Int->Bool)(g:z_ Nat->z_ Nat->Bool):PV->PV->PH->Rs PV:=λx y h=>match x,y with
 |.int i,.int j=>.ok (.bl (f i j)) h
 |.str i,.str j=>.ok (.bl (g i.cps.toList j.cps.toList)) h
 |_,_=>.bad
theorem QB{p:Int->Int->Bool}{g:z_ Nat->z_ Nat->Bool}(ho:q0C f (JE p g)):q0o f (OB p g):=λc=>ho.imp λx y H Q h=>by
 let⟨φ,h,p,q,rh,rx,ry,po⟩:=h;unfold OB at po;cases p with
 |int i=>
  cases q with
  |int j=>cases rx;cases ry;show R_ rfl
  |_=>exact po.elim
 |str i=>
  cases q with
  |str j=>cases rx;cases ry;show R_ rfl
  |_=>exact po.elim
 |_=>exact po.elim
abbrev vLt:=OB (λi j=>decide (i<j)) λi j=>decide (i<j)
abbrev vGt:=OB (λi j=>decide (j<i)) λi j=>decide (j<i)
abbrev vLe:=OB (λi j=>decide (i<=j)) λi j=>!decide (j<i)
theorem zay:q0o (zc .Lt) vLt:=QB WJ
theorem zaz:q0o (zc .Gt) vGt:=QB WK
theorem zaA:q0o (zc .LtE) vLe:=QB WL
mutual
def PV.d:PV->A_ D
 |.non=>a_ .non
 |.bl b=>a_ (.bl b)
 |.int i=>d_ i
 |.str x=>a_ (.str x)
 |.tup xs=>match PV.ds xs with
  |some ds=>a_ (.tup ds)
  |none=>b_
 |.ref _=>b_
 |.ty _=>b_
 |.fl _=>b_
def PV.ds:z_ PV->A_ (z_ D)
 |[]=>a_ []
 |x::xs=>match PV.d x,PV.ds xs with
  |some d,a_ ds=>a_ (d::ds)
  |_,_=>b_
end
mutual
theorem RV.rep:∀{x:PV}{d:D}{v:V},E_ x v->x.d=a_ d->Rep C.K H d v
 |.non,_,_,h,e=>by cases e;show h
 |.bl _,_,_,h,e=>by cases e;show h
 |.int _,_,_,h,e=>by cases e;show h
 |.str _,_,_,h,e=>by cases e;show h
 |.tup xs,d,v,⟨a,vs,e1,q,r⟩,e=>by
  unfold PV.d at e;cases e2:PV.ds xs with
  |none=>rw[e2]at e;cases e
  |some ds=>
   rw[e2]at e;cases e
   show⟨a,vs,e1,q,RVs.reps r e2⟩
 |.ref _,_,_,_,e=>by cases e
 |.ty _,_,_,_,e=>by cases e
 |.fl _,_,_,_,e=>by cases e
theorem RVs.reps:∀{xs:z_ PV}{ds:z_ D}{vs:z_ V},G_ xs vs->PV.ds xs=a_ ds->iQ C.K H ds vs
 |[],_,[],_,e=>by cases e;trivial
 |x::xs,_,v::vs,⟨h,r⟩,e=>by
  unfold PV.ds at e;cases e1:PV.d x with
  |none=>rw[e1]at e;cases e
  |some d=>
   cases e2:PV.ds xs with
   |none=>rw[e1,e2]at e;cases e
   |some ds=>
    rw[e1,e2]at e;cases e
    show⟨RV.rep h e1,RVs.reps r e2⟩
 |[],_,_::_,h,_=>h.elim
 |_::_,_,[],h,_=>h.elim
end
def Ig(x y:PV)(h:PH):A_ Bool:=match x.d,y.d with
 |some d,a_ e=>if d.depth<=40 then a_ (eqD d e) else b_
 | _,_=>match sI x h,sI y h with
   |some xs,a_ ys=>match PV.ds xs,PV.ds ys with
    |some ds,a_ es=>if X_ 0<=40 then a_ (pF ds es) else b_
    |_,_=>b_
   |_,_=>b_
def ofB(o:A_ Bool)(h:PH):Rs PV:=match o with
 |some b=>.ok (.bl b) h
 |none=>.bad
def vEq:PV->PV->PH->Rs PV:=λx y h=>ofB (Ig x y h) h
def vNe:PV->PV->PH->Rs PV:=λx y h=>ofB ((Ig x y h).map not) h
theorem Eu{q:PV}{x:V}(rh:K_ h)(rx:E_ p x)(ry:E_ q y)(e:Ig p q h=a_ b):
  (∃d e,Rep C.K H d x/\Rep C.K H e y/\d.depth<=40/\b=eqD d e)\/(∃ds es,Oo C.K H ds x/\Oo C.K H es y/\X_ 0<=40/\b=pF ds es):=by
 unfold Ig at e;split at e
 ·rename_i d e' h1 h2;split at e
  ·rename_i hd;cases e
   show .inl ⟨d,e',rx.rep h1,ry.rep h2,hd,rfl⟩
  ·cases e
 ·split at e
  ·rename_i xs ys h1 h2;split at e
   ·rename_i ds es h3 h4;split at e
    ·rename_i hd;cases e
     let⟨a',vs,rfl,sa,ra⟩:=Aw rh rx h1;let⟨b'',us,rfl,sb,rb⟩:=Aw rh ry h2;show .inr ⟨ds,es,⟨a',vs,rfl,sa,ra.reps h3⟩,⟨b'',us,rfl,sb,rb.reps h4⟩,hd,rfl⟩
    ·cases e
   ·cases e
  ·cases e
theorem post.ofB{o:A_ Bool}{Q:VK}(q:P_ (ofB o h) Q):∃b,o=a_ b/\P_ (.ok (.bl b) h) Q:=by
 cases o with
 |none=>exact q.elim
 |some b=>exact⟨b,rfl,q⟩
theorem mR:q0o (zc .Eq) vEq:=λc=>((WS c.hu64 C.K c.K).or (WU c.hu64 C.K c.K)).imp λx y H Q h=>by
 let⟨φ,h,p,q,rh,rx,ry,po⟩:=h;let⟨b,e,po⟩:=po.ofB;rcases Eu rh rx ry e with⟨d,e',h1,h2,h3,rfl⟩|⟨d,e',h1,h2,h3,rfl⟩
 ·show .inl ⟨d,e',h1,h2,h3,R_ rfl⟩
 ·show .inr ⟨d,e',h1,h2,h3,R_ rfl⟩
theorem U5:q0o (zc .NotEq) vNe:=λc=>((WT c.hu64 C.K c.K).or (WV c.hu64 C.K c.K)).imp λx y H Q h=>by
 let⟨φ,h,p,q,rh,rx,ry,po⟩:=h;let⟨b,e,po⟩:=po.ofB;cases e0:Ig p q h with
 |none=>rw[e0]at e;cases e
 |some b'=>
  rw[e0]at e;cases e
  rcases Eu rh rx ry e0 with⟨d,e',h1,h2,h3,rfl⟩|⟨d,e',h1,h2,h3,rfl⟩
  ·show .inl ⟨d,e',h1,h2,h3,R_ rfl⟩
  ·show .inr ⟨d,e',h1,h2,h3,R_ rfl⟩
def JO:PV->A_ Key
 |.int i=>a_ (.inl i)
 |.str x=>a_ (.inr x)
 |_=>b_
def bB{κ:Type}[q0P 0]:z_ (κ×PV)->κ->A_ PV
 |[],_=>b_
 |(a,p)::r,b=>if a=b then a_ p else bB r b
def LU(h:PH)(n:Nat)(x:PV):A_ (A_ PV):=match h[n]? with
 |some (.dK kvs)=>match JO x with
  |some key=>a_ (q0H key)
  |none=>b_
 |_=>b_
def Ew(x:PV)(ys:z_ PV):A_ Bool:=match x.d,PV.ds ys with
 |some d,a_ ds=>if X_ 0<=40 then a_ (ds.any λe=>eqD e d) else b_
 |_,_=>b_
def JP(x y:PV)(h:PH):A_ Bool:=match y with
 |.tup ys=>Ew x ys
 |.ref n=>match cB h n with
  |some ys=>Ew x ys
  |none=>(LU h n x).map Option.isSome
 |.fl ys=>Ew x ys
 |_=>b_
def vIn:PV->PV->PH->Rs PV:=λx y h=>ofB (JP x y h) h
def Ex:PV->PV->PH->Rs PV:=λx y h=>ofB ((JP x y h).map not) h
variable{key:Key}
theorem LV{x:PV}(r:E_ x v)(e:JO x=a_ key):v=kV key:=by cases x <;> first|(cases e;show r)|cases e
theorem GY{κ:Type}[q0P 0]{kvs:z_ (κ×PV)}{ks:z_ (κ×V)}(r:q0Z kvs ks)(a:κ):match q0H a,vC ks a with
  |some p,a_ v=>E_ p v
  |none,b_=>True
  |_,_=>False:=by
 unfold RKv at r
 induction r with
 |nil=>trivial
 | @cons p q ps qs h t ih=>
  let⟨h1,h2⟩:=h;let⟨pk,pv⟩:=p;by_cases e:pk=a
  ·let e':q.1=a:=h1.symm.trans e;rw[Ai e'];unfold bB;rw[if_pos e];show h2
  ·let e':¬ q.1=a:=λz=>e (h1.trans z);rw[Aj e'];unfold bB;rw[if_neg e];show ih
theorem zF{x:PV}{o:A_ PV}(rh:K_ h)(ha:φ[n]?=a_ a)(rv:E_ x v)(e:LU h n x=a_ o):
  ∃o',zB H a v o'/\o.isSome=o'.isSome/\∀p,o=a_ p->∃w,o'=a_ w/\E_ p w:=by
 unfold LU at e;split at e
 ·rename_i kvs hk;split at e
  ·rename_i key g8;cases e
   let⟨ks,hH,rk⟩:=q0h hk;let q:=GY rk key;rw[LV rv g8];refine⟨vC ks key,zB.k hH,?_,λp hp=>?_⟩
   ·cases e1:q0H key <;> cases e2:vC ks key <;> rw[e1,e2]at q <;> first|rfl|exact q.elim
   ·rw[hp]at q;cases e2:vC ks key with
    |none=>rw[e2]at q;show q.elim
    |some w=>rw[e2]at q;show⟨w,rfl,q⟩
  ·cases e
 ·cases e
theorem Ey{q:PV}{x:V}(rh:K_ h)(rx:E_ p x)(ry:E_ q y)(e:JP p q h=a_ b):
  (∃d a ds vs,y=.ref a/\(SqL C.K H a vs\/SqT C.K H a vs)/\Rep C.K H d x/\iQ C.K H ds vs/\X_ 0<=40/\b=ds.any λe=>eqD e d)\/∃a o,y=.ref a/\zB H a x o/\b=o.isSome:=by
 let go:∀{a:td}{vs:z_ V}{ys:z_ PV},(SqL C.K H a vs\/SqT C.K H a vs)->G_ ys vs->Ew p ys=a_ b->∃d a' ds vs,V.ref a=.ref a'/\(SqL C.K H a' vs\/SqT C.K H a' vs)/\Rep C.K H d x/\iQ C.K H ds vs/\X_ 0<=40/\b=ds.any λe=>eqD e d:=by
  intro a vs ys hs hr he;unfold Ew at he;split at he
  ·rename_i d ds h1 h2;split at he
   ·rename_i hd;cases he
    show⟨d,a,ds,vs,rfl,hs,rx.rep h1,hr.reps h2,hd,rfl⟩
   ·cases he
  ·cases he
 unfold JP at e;split at e
 ·let⟨a,vs,rfl,sa,ra⟩:=ry;show .inl (go (.inr sa) ra e)
 ·rename_i n;let⟨a,rfl,ha⟩:=ry;split at e
  ·rename_i ys hl;let⟨a2,vs,aq,sa,ra⟩:=gR rh hl;rw[ha]at aq;cases aq;show .inl (go (.inl sa) ra e)
  ·cases e':LU h n p with
   |none=>rw[e']at e;cases e
   |some o=>
    rw[e']at e;cases e
    let⟨o',g,i,_⟩:=zF rh ha rx e';show .inr ⟨a,o',rfl,g,i⟩
 ·let⟨a,vs,rfl,sa,ra⟩:=ry;show .inl (go (.inl sa.sq) ra e)
 ·cases e
theorem zaB:q0o (zc .In) vIn:=λc=>((WW c.hu64 C.K c.K).or (WN c.hu C.K c.K)).imp λx y H Q h=>by
 let⟨φ,h,p,q,rh,rx,ry,po⟩:=h;let⟨b,e,po⟩:=po.ofB;rcases Ey rh rx ry e with⟨d,a,ds,vs,rfl,h1,h2,h3,h4,rfl⟩|⟨a,o,rfl,g,rfl⟩
 ·show .inl ⟨d,a,ds,vs,rfl,h1,h2,h3,h4,R_ rfl⟩
 ·show .inr (.inr ⟨a,o,rfl,g,R_ rfl⟩)
theorem U6:q0o (zc .NotIn) Ex:=λc=>((Oq c.hu64 C.K c.K).or (Ol c.hu C.K c.K)).imp λx y H Q h=>by
 let⟨φ,h,p,q,rh,rx,ry,po⟩:=h;let⟨b,e,po⟩:=po.ofB;cases e':JP p q h with
 |none=>rw[e']at e;cases e
 |some b'=>
  rw[e']at e;cases e
  rcases Ey rh rx ry e' with⟨d,a,ds,vs,rfl,h1,h2,h3,h4,rfl⟩|⟨a,o,rfl,g,rfl⟩
  ·show .inl ⟨d,a,ds,vs,rfl,h1,h2,h3,h4,R_ rfl⟩
  ·show .inr (.inr ⟨a,o,rfl,g,R_ rfl⟩)
def mS:PV->Bool
 |.non=>true
 |_=>false
def vIs:PV->PV->PH->Rs PV:=λx y h=>match y with
 |.non=>.ok (.bl (mS x)) h
 |.bl b=>match x with
  |.bl a=>.ok (.bl (a == b)) h
  |_=>.bad
 |_=>.bad
def Bw:PV->PV->PH->Rs PV:=λx y h=>match y with
 |.non=>.ok (.bl (!mS x)) h
 |.bl b=>match x with
  |.bl a=>.ok (.bl (!(a == b))) h
  |_=>.bad
 |_=>.bad
theorem RV.isNon(r:E_ p v):decide (v=.non)=mS p:=by
 cases p with
 |non=>cases r;rfl
 |tup xs=>let⟨a,vs,rfl,_⟩:=r;rfl
 |ref n=>let⟨a,rfl,_⟩:=r;rfl
 |fl xs=>let⟨a,vs,rfl,_⟩:=r;rfl
 |_=>cases r;rfl
theorem zaC:q0o (zc .Is) vIs:=λc=>(Wo.or (λP1 s σ H x y v u Q I rx ry(h:∃a b,x=.bl a/\y=.bl b/\Q (.bl (a == b)) H)=>by let⟨a,b,rfl,rfl,q⟩:=h;cases rx;cases ry;show PyProof.Rows.is_bool ⟨.bl _,H,I,rfl,q⟩)).imp λx y H Q h=>by
 let⟨φ,h,p,q,rh,rx,ry,po⟩:=h;unfold vIs at po;cases q with
 |non=>
  cases ry
  refine .inl ⟨rfl,?_⟩;rw[rx.isNon];show R_ rfl
 |bl b=>
  cases p with
  |bl a=>cases rx;cases ry;show .inr ⟨a,b,rfl,rfl,R_ rfl⟩
  |_=>exact po.elim
 |_=>exact po.elim
theorem U7:q0o (zc .IsNot) Bw:=λc=>(Tq.or (λP1 s σ H x y v u Q I rx ry(h:∃a b,x=.bl a/\y=.bl b/\Q (.bl (!(a == b))) H)=>by let⟨a,b,rfl,rfl,q⟩:=h;cases rx;cases ry;show PyProof.Rows.isnot_bool ⟨.bl _,H,I,rfl,q⟩)).imp λx y H Q h=>by
 let⟨φ,h,p,q,rh,rx,ry,po⟩:=h;unfold Bw at po;cases q with
 |non=>
  cases ry
  refine .inl ⟨rfl,?_⟩;rw[rx.isNon];show R_ rfl
 |bl b=>
  cases p with
  |bl a=>cases rx;cases ry;show .inr ⟨a,b,rfl,rfl,R_ rfl⟩
  |_=>exact po.elim
 |_=>exact po.elim
def tru(x:PV)(h:PH):Rs Bool:=match x with
 |.non=>.ok false h
 |.bl b=>.ok b h
 |.int i=>.ok (i != 0) h
 |.str y=>if y.length<=yo then .ok ((y.length:Int) != 0) h else .bad
 |.tup xs=>.ok (!xs.isEmpty) h
 |.ref n=>match cB h n with
  |some xs=>.ok (!xs.isEmpty) h
  |none=>match h[n]? with
   |some (.dK kvs)=>.ok (!kvs.isEmpty) h
   |_=>.bad
 |.fl xs=>.ok (!xs.isEmpty) h
 |.ty _=>.bad
theorem RVs.isEmpty(r:G_ xs vs):(!vs.isEmpty)=!xs.isEmpty:=by cases xs <;> cases vs <;> first|rfl|exact r.elim
theorem eU.ite{c:Prop}[Decidable c]{r:Rs Bool}{Q:Bool->Hp->Prop}(h:eU C φ H (if c then r else .bad) Q):c/\eU C φ H r Q:=by
 by_cases hc:c
 ·rw[if_pos hc]at h;show⟨hc,h⟩
 ·rw[if_neg hc]at h;show h.elim
theorem eU.val{Q:Bool->Hp->Prop}(q:eU C φ H (.ok b h) Q)(rh:K_ h):Q b H:=q φ H yk (Kp.refl H) rh
theorem OC{Q:Bool->Hp->Prop}(rh:K_ h)(rv:E_ p v)(po:eU C φ H (tru p h) Q):∃b,Ts C.K v H b/\Q b H:=by
 unfold tru at po;cases p with
 |non=>cases rv;show⟨_,rfl,po.val rh⟩
 |bl b=>cases rv;show⟨_,rfl,po.val rh⟩
 |int i=>cases rv;show⟨_,rfl,po.val rh⟩
 |str y=>cases rv;show⟨_,⟨po.ite.1,rfl⟩,po.ite.2.val rh⟩
 |tup xs=>let⟨a,vs,rfl,sa,ra⟩:=rv;show⟨_,.inr (.inl ⟨vs,sa,rfl⟩),by rw[ra.isEmpty];show po.val rh⟩
 |ref n=>
  let⟨a,rfl,ha⟩:=rv;dsimp only at po;cases e:cB h n with
  |some xs=>rw[e]at po;let⟨a2,vs,aq,sa,ra⟩:=gR rh e;rw[ha]at aq;cases aq;show⟨_,.inl ⟨vs,sa,rfl⟩,by rw[ra.isEmpty];show po.val rh⟩
  |none=>
   rw[e]at po;dsimp only at po;split at po
   ·rename_i kvs hk;let⟨ks,hH,rk⟩:=q0h hk;refine⟨_,.inr (.inr ⟨ks,hH,rfl⟩),?_⟩;have:(!ks.isEmpty)=!kvs.isEmpty:=by cases rk <;> rfl
    rw[this];show po.val rh
   ·show po.elim
 |fl xs=>let⟨a,vs,rfl,sa,ra⟩:=rv;show⟨_,.inl ⟨vs,sa.sq,rfl⟩,by rw[ra.isEmpty];show po.val rh⟩
 |ty n=>exact po.elim
variable{C:MC}{k:Nat}{X:Cx}
def cJ(m:Me):Ev->PH->Rs Bool:=λδ h=>(m δ h).bind tru
variable{m:Me}
theorem QC{Q:Bool->Hp->Prop}(h:rdB C (cJ m) σ H Q):rd C m σ H λv H1=>∃b,Ts C.K v H1 b/\Q b H1:=by let⟨φ,δ,h,rh,re,p⟩:=h;refine⟨φ,δ,h,rh,re,(post.bindB p).imp ?_⟩;rintro v H1 ⟨φ1,x,h1,p1,t1,af,ag,q1⟩;show OC af ag q1
section
variable{a b c':x_}{mc:Me}{g g':PV->PV->PH->Rs PV}{ta tb:Ev->PH->Rs Bool}
theorem Ax(h:I_ e m)(he:∀whole,isTrue e X.env whole=(do let v <-whole;standAt e.pos;holding [v] (truthy v)):=by intro _;rfl):ST C k X e (cJ m):=λc=>
 (Q1 (h c) he).imp λσ H Q q=>by rw[c.K];exact QC q
theorem dC(ho:q0o (zc op) g)(ha:I_ a ma)(hb:I_ b mb)(hm:behindInMarks op b=false:=by first|exact PY _|rfl):ST C k X (.Compare a [op] [b] pos) (cJ (aE g ma mb)):=λc=>by
 intro P1 s σ H Q I h;let h:=Nh (QC h);refine wpAny_isTrue_Compare1 (thn (ha c P1 s σ H _ I h) λv s1 ⟨x,H1,I1,r1,q1⟩=>thn (hb c P1 s1 σ H1 _ I1 q1) λu s2 ⟨y,H2,I2,r2,q2⟩=>thn (ho c P1 s2 σ H2 x y v u _ I2 r1 r2 q2) λw s3 ⟨z,H3,I3,r3,q3⟩=>?_) hm;rw[<-c.K]at q3;show PZ P1 s3 σ H3 z w Q I3 r3 q3
def YQ(z:PV)(h:PH):Rs PV:=match z with
 |.bl b=>.ok (.bl b) h
 |_=>.bad
def za1(g g':PV->PV->PH->Rs PV)(ma mb mc:Me):Me:=λδ h=>(ma δ h).bind λx h1=>(mb δ h1).bind λy h2=>(g x y h2).bind λz h3=>match z with
 |.bl true=>(mc δ h3).bind λw h4=>(g' y w h4).bind YQ
 |.bl false=>.ok (.bl false) h3
 |_=>.bad
def vL(t:Ev->PH->Rs Bool):Ev->PH->Rs Bool:=λδ h=>(t δ h).bind λb h1=>.ok (!b) h1
def Nk(ta tb:Ev->PH->Rs Bool):Ev->PH->Rs Bool:=λδ h=>(ta δ h).bind λb h1=>match b with
 |true=>tb δ h1
 |false=>.ok false h1
def JQ(ta tb:Ev->PH->Rs Bool):Ev->PH->Rs Bool:=λδ h=>(ta δ h).bind λb h1=>match b with
 |true=>.ok true h1
 |false=>tb δ h1
theorem eU.imp{r:Rs Bool}{Q Q':Bool->Hp->Prop}(h:eU C φ H r Q)(i:∀v H',Q v H'->Q' v H'):eU C φ H r Q':=by
 cases r with
 |ok a h'=>exact λφ' H' p t rh=>i a H' (h φ' H' p t rh)
 |exc a h'=>exact h
 |bad=>exact h
theorem GZ(h:ST C k X e ta):ST C k X (.UnaryOp .Not e pos) (vL ta):=λc=>(W7 (h c)).imp λσ H Q q=>by let⟨φ,δ,h,rh,re,p⟩:=q;refine⟨φ,δ,h,rh,re,(eU.bindB p).imp ?_⟩;rintro b H1 ⟨φ1,h1,p1,t1,af,q1⟩;show q1.val af
def SW(C:MC)(k:Nat)(X:Cx)(e:x_)(m:Ev->PH->Rs Bool):Prop:=q0j X->PW X e (rdB C m)
theorem SW.t(h:SW C k X e ta):ST C k X e ta:=λc=>(h c).pt
theorem PW.imp{t t':TT}(h:PW X e t)(i:∀σ H Q,t' σ H Q->t σ H Q):PW X e t':=λw P1 s σ H Q I q=>h w P1 s σ H Q I (i σ H Q q)
theorem X2(ha:ST C k X a ta):SW C k X (.BoolOp .And [a] pos) ta:=λc=>Tg (ha c)
theorem VM(ha:ST C k X a ta):SW C k X (.BoolOp .Or [a] pos) ta:=λc=>W5 (ha c)
theorem w_and{rest:z_ x_}(ha:ST C k X a ta)(hb:SW C k X (.BoolOp .And (b::rest) pos) tb):SW C k X (.BoolOp .And (a::b::rest) pos) (Nk ta tb):=λc=>PW.imp (W6 (ha c) (hb c)) λσ H Q q=>by
 let⟨φ,δ,h,rh,re,p⟩:=q;refine⟨φ,δ,h,rh,re,(eU.bindB p).imp ?_⟩;rintro b H1 ⟨φ1,h1,p1,t1,af,q1⟩;cases b with
 |true=>exact LG ⟨φ1,δ,h1,af,U_ 0,q1⟩
 |false=>exact LF (q1.val af)
theorem w_or{rest:z_ x_}(ha:ST C k X a ta)(hb:SW C k X (.BoolOp .Or (b::rest) pos) tb):SW C k X (.BoolOp .Or (a::b::rest) pos) (JQ ta tb):=λc=>PW.imp (Yh (ha c) (hb c)) λσ H Q q=>by
 let⟨φ,δ,h,rh,re,p⟩:=q;refine⟨φ,δ,h,rh,re,(eU.bindB p).imp ?_⟩;rintro b H1 ⟨φ1,h1,p1,t1,af,q1⟩;cases b with
 |true=>exact LG (q1.val af)
 |false=>exact LF ⟨φ1,δ,h1,af,U_ 0,q1⟩
def U8(ma mb:Me):Me:=λδ h=>(ma δ h).bind λx h1=>match x with
 |.bl true=>.ok (.bl true) h1
 |.bl false=>mb δ h1
 |_=>.bad
theorem YR{op}(h:I_ a ma):I_ (.BoolOp op [a] pos) ma:=λc=>W8 (h c)
theorem zaD{rest:z_ x_}(ha:I_ a ma)(hb:I_ (.BoolOp .Or (b::rest) pos) mb):I_ (.BoolOp .Or (a::b::rest) pos) (U8 ma mb):=λc=>(WM (ha c) (hb c)).imp λσ H Q q=>by
 let⟨φ,δ,h,rh,re,p⟩:=q;refine⟨φ,δ,h,rh,re,(post.bind p).imp ?_⟩;rintro v H1 ⟨φ1,x,h1,p1,t1,af,rv,q1⟩;cases x with
 |bl b=>
  cases rv
  cases b with
  |true=>exact LG (q1.val af rfl)
  |false=>exact LF ⟨φ1,δ,h1,af,U_ 0,q1⟩
 |_=>exact q1.elim
def mIf(t:Ev->PH->Rs Bool)(ma mb:Me):Me:=λδ h=>(t δ h).bind λb h1=>match b with
 |true=>ma δ h1
 |false=>mb δ h1
theorem DE(ht:ST C k X c' ta)(ha:I_ a ma)(hb:I_ b mb):I_ (.IfExp c' a b pos) (mIf ta ma mb):=λc=>(PL (ht c) (ha c) (hb c)).imp λσ H Q q=>by
 let⟨φ,δ,h,rh,re,p⟩:=q;refine⟨φ,δ,h,rh,re,(eU.bind p).imp ?_⟩;rintro b H1 ⟨φ1,h1,p1,t1,af,q1⟩;cases b with
 |true=>exact LG ⟨φ1,δ,h1,af,U_ 0,q1⟩
 |false=>exact LF ⟨φ1,δ,h1,af,U_ 0,q1⟩
end
theorem RVs.atI{i:Int}{x:PV}(r:G_ xs vs)(e:L2.atI xs i=a_ x):∃v,L2.atI vs i=a_ v/\E_ x v:=by
 unfold L2.atI at e⊢;rw[<-r.length];cases q:ixN xs.length i with
 |none=>rw[q]at e;cases e
 |some j=>rw[q]at e;show r.at e
def ofO(o:A_ PV)(h:PH):Rs PV:=match o with
 |some p=>.ok p h
 |none=>.bad
def vIx:PV->PV->PH->Rs PV:=λx y h=>match x with
 |.str z=>(match y with
  |.int i=>if z.length<=yo then ofO ((atI z.cps.toList i).map λc=>.str ⟨#[c]⟩) h else .bad
  |_=>.bad)
 |.tup xs=>(match y with
  |.int i=>ofO (atI xs i) h
  |_=>.bad)
 |.fl xs=>(match y with
  |.int i=>ofO (atI xs i) h
  |_=>.bad)
 |.ref n=>(match cB h n with
  |some xs=>(match y with
   |.int i=>ofO (atI xs i) h
   |_=>.bad)
  |none=>(match LU h n y with
   |some o=>ofO o h
   |none=>.bad))
 |_=>.bad
theorem post.ofO{o:A_ PV}{Q:VK}(q:P_ (ofO o h) Q):∃p,o=a_ p/\P_ (.ok p h) Q:=by
 cases o with
 |none=>exact q.elim
 |some b=>exact⟨b,rfl,q⟩
theorem YS{x:V}{Q:VK}(h:r2 C vIx x y H Q):YH C.K x y H Q:=by
 let⟨φ,h,p,q,rh,rx,ry,po⟩:=h;unfold vIx at po;cases p with
 |str z=>
  cases rx
  cases q with
  |int i=>
   cases ry
   let⟨hz,po⟩:=po.ite;let⟨p,e,po⟩:=po.ofO;cases e':atI z.cps.toList i with
   |none=>rw[e']at e;cases e
   |some c=>rw[e']at e;cases e;show⟨hz,c,e',R_ rfl⟩
  |_=>exact po.elim
 |tup xs=>
  let⟨a,vs,rfl,sa,ra⟩:=rx;cases q with
  |int i=>
   cases ry
   let⟨p,e,po⟩:=po.ofO;let⟨v,hv,rv⟩:=ra.atI e;show .inl ⟨vs,i,v,rfl,.inr sa,hv,R_ rv⟩
  |_=>exact po.elim
 |fl xs=>
  let⟨a,vs,rfl,sa,ra⟩:=rx;cases q with
  |int i=>
   cases ry
   let⟨p,e,po⟩:=po.ofO;let⟨v,hv,rv⟩:=ra.atI e;show .inl ⟨vs,i,v,rfl,.inl sa.sq,hv,R_ rv⟩
  |_=>exact po.elim
 |ref n=>
  let⟨a,rfl,ha⟩:=rx;dsimp only at po;cases e:cB h n with
  |some xs=>
   rw[e]at po;let⟨a2,vs,aq,sa,ra⟩:=gR rh e;rw[ha]at aq;cases aq;cases q with
   |int i=>
    cases ry
    let⟨p,e,po⟩:=po.ofO;let⟨v,hv,rv⟩:=ra.atI e;show .inl ⟨vs,i,v,rfl,.inl sa,hv,R_ rv⟩
   |_=>exact po.elim
  |none=>
   rw[e]at po;dsimp only at po;cases e':LU h n q with
   |none=>rw[e']at po;show po.elim
   |some o=>rw[e']at po;let⟨p,eo,po⟩:=po.ofO;let⟨o',g,_,hp⟩:=zF rh ha ry e';let⟨w,rfl,cb⟩:=hp p eo;show .inr ⟨w,g,R_ cb⟩
 |_=>exact po.elim
variable{vl vu:r_}
theorem yH{t sl:td}{lo hi:A_ Int}(ht:IsTup s.heap t items)(hs:s.heap.IsSliceOf sl vl vu .none)(pl:IsPart vl lo)(pu:IsPart vu hi)(hw:HT.sIx items.size 0 lo=0/\HT.sIx items.size items.size hi=items.size)(h:Q (.ref t) s):C_ (getItem (.ref t) (.ref sl)) Q E s:=by
 let⟨os,lq,nv,jz⟩:=id hs;let r8:s.TypeIs (.ref sl) "slice" := ⟨os,lq,nv⟩;unfold getItem
 try with_reducible refine y0c ?_
 first|refine xr (xw ?_)|skip
 refine xr (wpAny_sequenceKey ht.typeIs nofun ?_);refine xr (z9 (name:=yi "__getitem__") ht.typeIs y0j
  (zm y0j ht.typeIs entry_tuple_getitem ?_ (args_tuple_getitem _ _)))
 change F_ (y2t (.ref t) >>= _) _ _ s
 refine xr (tupleItemsOf_ ht ?_);refine xr (wpAny_typeOf r8 ?_);rw[if_pos nofun];refine xr (HT.sliceApplied_gen hs pl pu ?_);let je:((((HT.sIx items.size 0 lo:Nat):Int) == 0&&(1:Int) == 1&&(HT.sIx items.size items.size hi-HT.sIx items.size 0 lo) == items.size)=true):=by rw[hw.1,hw.2];simp
 change F_ (if(((HT.sIx items.size 0 lo:Nat):Int) == 0&&(1:Int) == 1&&(HT.sIx items.size items.size hi-HT.sIx items.size 0 lo) == items.size)=true then _ else _) _ _ s
 rw[if_pos je];refine xr ?_;unfold Builtin.Tuple.tupleIsExact;refine xr (wpAny_typeOf ht.typeIs (xw ?_));rw[if_pos nofun];refine xr (wpAny_rule ?_);show xw ⟨_,rfl,xw h⟩
variable{C:MC}{k:Nat}{X:Cx}
def mT{α:Type}(xs:z_ α)(lo hi:A_ Int):z_ α:=(xs.drop (q0b 0 lo)).take (q0b xs.length hi-q0b 0 lo)
theorem RVs.cut(r:G_ xs vs)(lo hi:A_ Int):G_ (mT xs lo hi) (JA vs lo hi):=by unfold mT JA;rw[<-r.length];show(r.drop _).take _
def vSl:PV->A_ Int->A_ Int->PH->Rs PV:=λx lo hi h=>match x with
 |.str z=>if z.length<=yo then .ok (.str (y0T z lo hi)) h else .bad
 |.tup xs=>.ok (.tup (mT xs lo hi)) h
 |.ref n=>match cB h n with
  |some xs=>.ok (.ref h.length) (h++[.lst (mT xs lo hi)])
  |none=>.bad
 |.fl xs=>.ok (.ref h.length) (h++[.lst (mT xs lo hi)])
 |_=>.bad
def YT(K:yb):V->A_ Int->A_ Int->Hp->VK->Prop:=λx lo hi H Q=>∃a xs,x=.ref a/\q1c a xs/\(q0b 0 lo=0/\q0b xs.length hi=xs.length)/\Q (.ref a) H
theorem QD:SlR X (YT X.K):=by
 intro P1 s σ H x v vl vu lo hi sl Q I rx hs pl pu h;let⟨a,xs,rfl,hx,hw,q⟩:=h;cases rx
 let⟨its,r,ht,hz⟩:=I.tuple hx;let hlen:its.toArray.size=xs.length:=by rw[yn];show r.length.symm
 refine⟨"tuple",_,y0j.lookup,ht.typeIs,?_⟩;show yH ht hs pl pu (by rw[hlen];show hw) ⟨.ref a,H,I,rfl,q⟩
variable{r r':V->A_ Int->A_ Int->Hp->VK->Prop}
theorem SlR.imp(h:SlR X r)(i:∀x lo hi H Q,r' x lo hi H Q->r x lo hi H Q):SlR X r':=λP1 s σ H x v vl vu lo hi sl Q I rx hs pl pu q=>q0t x v vl vu lo hi sl Q I rx hs pl pu (i x lo hi H Q q)
def r3(C:MC)(g:PV->A_ Int->A_ Int->PH->Rs PV):V->A_ Int->A_ Int->Hp->VK->Prop:=λx lo hi H Q=>∃φ h p,K_ h/\E_ p x/\P_ (g p lo hi h) Q
theorem X3(hK:X.K=C.K):SlR X (r3 C vSl):=by
 let e:SlR X (λx lo hi H Q=>YE x lo hi H Q\/Yu C.K x lo hi H Q\/Yx C.K x lo hi H Q\/YT C.K x lo hi H Q):=by rw[<-hK];show WI.or (Wv.or (TH.or QD))
 refine e.imp λx lo hi H Q h=>?_;let⟨φ,h,p,rh,rv,po⟩:=h;unfold vSl at po;cases p with
 |str z=>cases rv;show .inl ⟨z,rfl,po.ite.1,po.ite.2.val rh rfl⟩
 |tup xs=>
  let⟨a,vs,rfl,sa,ra⟩:=rv;by_cases hw:HT.sIx vs.length 0 lo=0/\HT.sIx vs.length vs.length hi=vs.length
  ·refine .inr (.inr (.inr ⟨a,vs,rfl,sa,hw,R_ ⟨a,vs,rfl,sa,?_⟩⟩));let e:mT xs lo hi=xs:=by unfold mT;rw[ra.length,hw.1,hw.2,List.drop_zero,Nat.sub_zero,<-ra.length,y2c]
   rw[e];show ra
  ·show .inr (.inl ⟨a,vs,rfl,sa,hw,λp hp=>po.tnew rh (ra.cut lo hi) hp⟩)
 |ref n=>
  let⟨a,rfl,ha⟩:=rv;dsimp only at po;cases e:cB h n with
  |none=>rw[e]at po;show po.elim
  |some xs=>rw[e]at po;let⟨a2,vs,aq,sa,ra⟩:=gR rh e;rw[ha]at aq;cases aq;show .inr (.inr (.inl ⟨a,vs,rfl,sa,λp hp=>po.lnew rh (ra.cut lo hi) hp⟩))
 |fl xs=>let⟨a,vs,rfl,sa,ra⟩:=rv;show .inr (.inr (.inl ⟨a,vs,rfl,sa.sq,λp hp=>po.lnew rh (ra.cut lo hi) hp⟩))
 |_=>exact po.elim
abbrev Mo:=Ev->PH->Rs (A_ Int)
def CK(C:MC)(φ:z_ td)(H:Hp)(r:Rs (A_ Int))(Q:A_ Int->Hp->Prop):Prop:=match r with
 |.ok b h=>∀φ' H',φ<+:φ'->Kp H H'->q0u h->Q b H'
 |.exc x h=>∀φ' H',φ<+:φ'->Kp H H'->q0u h->C.ex φ' H' x
 |.bad=>False
def rdO(C:MC)(m:Mo):TO:=λσ H Q=>∃φ δ h,K_ h/\q0q 0/\CK C φ H (m δ h) Q
def SO(C:MC)(k:Nat)(X:Cx)(e:A_ x_)(m:Mo):Prop:=q0j X->PO X e (rdO C m)
def rC:Mo:=λ_ h=>.ok b_ h
def mP(m:Me):Mo:=λδ h=>(m δ h).bind λx h1=>match x with
 |.int i=>.ok (a_ i) h1
 |_=>.bad
theorem rU:SO C k X b_ rC:=λc P1 s σ H Q I h=>by let⟨φ,δ,h,rh,re,p⟩:=h;show TB P1 s σ H Q I (p φ H yk (Kp.refl H) rh)
theorem oG(h:I_ e m):SO C k X (a_ e) (mP m):=λc P1 s σ H Q I q=>by
 refine Qj (h c) P1 s σ H Q I ?_;let⟨φ,δ,h,rh,re,p⟩:=q;refine⟨φ,δ,h,rh,re,?_⟩;unfold mP at p;cases e':m δ h with
 |ok x h1=>
  rw[e']at p;intro φ' v H' p' t' cg bt;cases x with
  |int i=>cases bt;show p φ' H' p' t' cg
  |_=>exact p.elim
 |exc x h1=>rw[e']at p;show p
 |bad=>rw[e']at p;show p
def mSl(me:Me)(ml mh:Mo):Me:=λδ h=>(me δ h).bind λx h1=>(ml δ h1).bind λl h2=>(mh δ h2).bind λu h3=>vSl x l u h3
theorem CK.bind{r:Rs (A_ Int)}{f:A_ Int->PH->Rs PV}{Q:VK}(h:P_ (r.bind f) Q):CK C φ H r λb H1=>∃φ1 h1,φ<+:φ1/\Kp H H1/\q0z 0/\post C φ1 H1 (f b h1) Q:=by
 cases r with
 |ok a h'=>exact λφ' H' p t rh=>⟨φ',h',p,t,rh,post.weak p t h⟩
 |exc a h'=>exact h
 |bad=>exact h
variable{Q':A_ Int->Hp->Prop}
theorem CK.imp{r:Rs (A_ Int)}{Q:A_ Int->Hp->Prop}(h:CK C φ H r Q)(i:∀v H',Q v H'->Q' v H'):CK C φ H r Q':=by
 cases r with
 |ok a h'=>exact λφ' H' p t rh=>i a H' (h φ' H' p t rh)
 |exc a h'=>exact h
 |bad=>exact h
variable{hi lo:A_ x_}{me:Me}{mh ml:Mo}{p2:Pos}
theorem Ez(he:I_ e me)(hl:SO C k X lo ml)(hh:SO C k X hi mh):I_ (.Subscript e (.Slice lo hi b_ p2) pos) (mSl me ml mh):=λc=>(Qc (X3 c.K) (he c) (hl c) (hh c)).imp λσ H Q h=>by let⟨φ,δ,h,rh,re,p⟩:=h;refine⟨φ,δ,h,rh,re,(post.bind p).imp ?_⟩;rintro v H1 ⟨φ1,x,h1,p1,t1,af,ag,q1⟩;refine⟨φ1,δ,h1,af,U_ 0,(CK.bind q1).imp ?_⟩;rintro l H2 ⟨φ2,h2,p2,t2,ao,q2⟩;refine⟨φ2,δ,h2,ao,re.mono (p1.trans p2) (t1.trans t2),(CK.bind q2).imp ?_⟩;rintro u H3 ⟨φ3,h3,p3,t3,cy,q3⟩;show⟨φ3,h3,x,cy,ag.mono (p2.trans p3) (t2.trans t3),q3⟩
abbrev Ma:=Ev->PH->Rs (z_ PV)
def aL:Ma:=λ_ h=>.ok [] h
def aB(m:Me)(ms:Ma):Ma:=λδ h=>(m δ h).bind λx h1=>(ms δ h1).bind λxs h2=>.ok (x::xs) h2
theorem PA.imp{t t':TA}(h:PA X es t)(i:∀σ H Q,t' σ H Q->t σ H Q):PA X es t':=λpos P1 s σ H Q I q=>h pos P1 s σ H Q I (i σ H Q q)
theorem aQ:SA C k X [] aL:=λc=>HL.imp λσ H Q h=>by let⟨φ,δ,h,rh,re,p⟩:=h;show p φ [] H yk (Kp.refl H) rh trivial
theorem postA.imp{r:Rs (z_ PV)}{Q Q':z_ V->Hp->Prop}(h:postA C φ H r Q)(i:∀v H',Q v H'->Q' v H'):postA C φ H r Q':=by
 cases r with
 |ok a h'=>exact λφ' v H' p t rh rv=>i v H' (h φ' v H' p t rh rv)
 |exc a h'=>exact h
 |bad=>exact h
variable{ms:Ma}
theorem aD(he:I_ e m)(hs:SA C k X es ms)(hh:yz (e::es) X.env=(false,q0d 0)::q0e 0:=by rfl):SA C k X (e::es) (aB m ms):=λc=>(Dz (he c) (hs c) hh).imp λσ H Q h=>by let⟨φ,δ,h,rh,re,p⟩:=h;refine⟨φ,δ,h,rh,re,(post.bindA p).imp ?_⟩;rintro v H1 ⟨φ1,x,h1,p1,t1,af,ag,q1⟩;refine⟨φ1,δ,h1,af,U_ 0,(postA.bindA q1).imp ?_⟩;rintro vs H2 ⟨φ2,xs,h2,p2,t2,ao,cf,q2⟩;show q2 φ2 (v::vs) H2 yk (Kp.refl H2) ao ⟨ag.mono p2 t2,cf⟩
def dW(ms:Ma):Me:=λδ h=>(ms δ h).bind λxs h1=>if xs.length<=yo then .ok (.tup xs) h1 else .bad
def oH(ms:Ma):Me:=λδ h=>(ms δ h).bind λxs h1=>if xs.length<=yo then .ok (.ref h1.length) (h1++[.lst xs]) else .bad
theorem eW{x1}(hs:SA C k X es ms):I_ (.Tuple es x1 pos) (dW ms):=λc=>(Ws (hs c)).imp λσ H Q h=>by let⟨φ,δ,h,rh,re,p⟩:=h;refine⟨φ,δ,h,rh,re,(postA.bind p).imp ?_⟩;rintro vs H1 ⟨φ1,xs,h1,p1,t1,af,ag,q1⟩;show⟨by rw[<-ag.length];show q1.ite.1,λp hp=>q1.ite.2.tnew af ag hp⟩
theorem nU(hs:SA C k X es ms):I_ (.List es pos) (oH ms):=λc=>(Wt (hs c)).imp λσ H Q h=>by let⟨φ,δ,h,rh,re,p⟩:=h;refine⟨φ,δ,h,rh,re,(postA.bind p).imp ?_⟩;rintro vs H1 ⟨φ1,xs,h1,p1,t1,af,ag,q1⟩;show⟨by rw[<-ag.length];show q1.ite.1,λp hp=>q1.ite.2.lnew af ag hp⟩
def zG:Me:=λ_ h=>.ok (.ref h.length) (h++[.dK []])
theorem Ay:I_ (.Dict [] [] pos) zG:=λc=>Qg.imp λσ H Q h=>by let⟨φ,δ,h,rh,re,p⟩:=h;intro a ha;show p (φ++[a]) (.ref a) _ (zy _ _) (Kp.new ha) (rh.new ha ⟨[],bP,.nil⟩) ⟨a,rfl,by rw[<-rh.len];simp⟩
def mCB(g:z_ PV->PH->Rs PV)(ms:Ma):Me:=λδ h=>(ms δ h).bind g
theorem VN{g:z_ PV->PH->Rs PV}{Q:VK}(h:rd C (mCB g ms) σ H Q):tCB (rL C g) (rdA C ms) σ H Q:=by let⟨φ,δ,h,rh,re,p⟩:=h;refine⟨φ,δ,h,rh,re,(postA.bind p).imp ?_⟩;rintro vs H1 ⟨φ1,xs,h1,p1,t1,af,ag,q1⟩;show⟨φ1,h1,xs,af,ag,q1⟩
theorem fS{p:Pos}{id:String}{g:z_ PV->PH->Rs PV}(hc:Av C k X (.builtin id) g)(hv:y1J x=a_ (.builtin id))(ha:SA C k X (e::es) ms)(hb:x∈C.bs:=by decide)(hg:Gl X x:=by rfl)(hn:x≠"__name__" := by decide)(bo:(x == ("__debug__" : Str))=false:=by decide)(he:yz (e::es) X.env=(false,q0d 0)::q0e 0:=by rfl)(ar:(q0m (q0e 0)).any (·.1)=false:=by rfl):I_ (.Call (.Name x p) (e::es) [] pos) (mCB g ms):=λc=>(Qa (hc c) hg (c.bn x hb) hv (ha c) hn bo he ar).imp λσ H Q h=>VN h
variable{T:String}
theorem nV{p:Pos}{g:z_ PV->PH->Rs PV}(hc:Av C k X (.type T) g)(hv:y1J x=a_ (.type T))(ha:SA C k X (e::es) ms)(hb:x∈C.bs:=by decide)(hg:Gl X x:=by rfl)(hn:x≠"__name__" := by decide)(bo:(x == ("__debug__" : Str))=false:=by decide)(he:yz (e::es) X.env=(false,q0d 0)::q0e 0:=by rfl)(ar:(q0m (q0e 0)).any (·.1)=false:=by rfl):I_ (.Call (.Name x p) (e::es) [] pos) (mCB g ms):=λc=>(Oc (hc c) hg (c.bn x hb) hv (ha c) hn bo he ar).imp λσ H Q h=>VN h
def spM(C:MC)(n:Nat)(f:Fn):Sp:=λvs H Q _=>∃φ h ps,K_ h/\G_ ps vs/\ps.length=n/\P_ (f ps h) Q
def jB(n:Nat)(f:Fn)(ms:Ma):Me:=λδ h=>(ms δ h).bind λps h1=>if ps.length=n then f ps h1 else .bad
variable{j:Nat}
theorem s_call{p:Pos}{f:Fn}(D:Def C.K X.mg x st a fd ps)(G:N_ a fd ps (spM C n f))(ha:SA C k X (e::es) ms)(hj:j<=k:=by decide)(hg:Gl X x:=by rfl)(bo:(x == ("__debug__" : Str))=false:=by decide)(he:yz (e::es) X.env=(false,q0d 0)::q0e 0:=by rfl)(ar:(q0m (q0e 0)).any (·.1)=false:=by rfl):
  I_ (.Call (.Name x p) (e::es) [] pos) (jB n f ms):=λc=>by
 let e1:=c.K;let D':Def X.K X.mg x st a fd ps:=by rw[e1];show D
 let G':L_ CX0 j a fd ps (spM C n f):=by rw[e1];show G
 refine(YL D' G' (c.room.mono hj) (ha c) hg bo he ar).imp λσ H Q h=>?_;let⟨φ,δ,h,rh,re,p⟩:=h;refine⟨φ,δ,h,rh,re,(postA.bind p).imp ?_⟩;rintro vs H1 ⟨φ1,xs,h1,p1,t1,af,ag,q1⟩;refine⟨φ1,h1,xs,af,by rw[y1f];show ag,q1.ite.1,q1.ite.2⟩
def pG:z_ PV->PH->Rs PV:=λxs h=>match xs with
 |[.str y]=>if y.length<=yo then .ok (.int y.length) h else .bad
 |[.tup ys]=>.ok (.int ys.length) h
 |[.fl ys]=>.ok (.int ys.length) h
 |[.ref n]=>match cB h n with
  |some ys=>.ok (.int ys.length) h
  |none=>match h[n]? with
   |some (.dK kvs)=>.ok (.int kvs.length) h
   |_=>.bad
 |_=>.bad
theorem RVs.one{x:PV}(r:G_ [x] vs):∃v,vs=[v]/\E_ x v:=by
 match vs,r with
 |[v],⟨h,_⟩=>exact⟨v,rfl,h⟩
 |[],h=>exact h.elim
 |_::_::_,⟨_,h⟩=>exact h.elim
theorem RVs.two{x y:PV}(r:G_ [x,y] vs):∃v w,vs=[v,w]/\E_ x v/\E_ y w:=by
 match vs,r with
 |[v,w],⟨h,h',_⟩=>exact⟨v,w,rfl,h,h'⟩
 |[],h=>exact h.elim
 |[_],⟨_,h⟩=>exact h.elim
 |_::_::_::_,⟨_,_,h⟩=>exact h.elim
theorem Az:Av C k X (.builtin "len") pG:=λc=>(Om C.K c.K).imp λvs H Q h=>by
 let⟨φ,h,ps,rh,rv,po⟩:=h;unfold pG at po;split at po
 ·let⟨v,rfl,rx⟩:=rv.one;cases rx
  show⟨po.ite.1,po.ite.2.val rh rfl⟩
 ·let⟨v,rfl,rx⟩:=rv.one;let⟨a,vs,rfl,sa,ra⟩:=rx;show .inl ⟨vs,.inr sa,by rw[<-ra.length];show R_ rfl⟩
 ·let⟨v,rfl,rx⟩:=rv.one;let⟨a,vs,rfl,sa,ra⟩:=rx;show .inl ⟨vs,.inl sa.sq,by rw[<-ra.length];show R_ rfl⟩
 ·rename_i n;let⟨v,rfl,rx⟩:=rv.one;let⟨a,rfl,ha⟩:=rx;split at po
  ·rename_i ys e;let⟨a2,vs,aq,sa,ra⟩:=gR rh e;rw[ha]at aq;cases aq;show .inl ⟨vs,.inl sa,by rw[<-ra.length];show R_ rfl⟩
  ·split at po
   ·rename_i kvs hk;let⟨ks,hH,rk⟩:=q0h hk;refine .inr ⟨ks,hH,?_⟩;have:ks.length=kvs.length:=(y0b rk).symm;rw[this];show R_ rfl
   ·show po.elim
 ·show po.elim
def vM:z_ PV->PH->Rs PV:=λxs h=>match xs with
 |[.tup ys]=>.ok (.tup ys) h
 |[.fl ys]=>.ok (.tup ys) h
 |[.ref n]=>match cB h n with
  |some ys=>.ok (.tup ys) h
  |none=>.bad
 |_=>.bad
theorem U9:Av C k X (.type "tuple") vM:=λc=>(JF C.K c.K).imp λvs H Q h=>by
 let⟨φ,h,ps,rh,rv,po⟩:=h;unfold vM at po;split at po
 ·let⟨v,rfl,rx⟩:=rv.one;let⟨a,vs,rfl,sa,ra⟩:=rx;show⟨a,vs,rfl,.inr ⟨sa,R_ ⟨a,vs,rfl,sa,ra⟩⟩⟩
 ·let⟨v,rfl,rx⟩:=rv.one;let⟨a,vs,rfl,sa,ra⟩:=rx;show⟨a,vs,rfl,.inl ⟨sa.sq,λp hp=>po.tnew rh ra hp⟩⟩
 ·rename_i n;let⟨v,rfl,rx⟩:=rv.one;let⟨a,rfl,ha⟩:=rx;split at po
  ·rename_i ys e;let⟨a2,vs,aq,sa,ra⟩:=gR rh e;rw[ha]at aq;cases aq;show⟨a,vs,rfl,.inl ⟨sa,λp hp=>po.tnew rh ra hp⟩⟩
  ·show po.elim
 ·show po.elim
def JR:z_ PV->PH->Rs PV:=λxs h=>match xs with
 |[.tup ys]=>.ok (.ref h.length) (h++[.lst ys])
 |[.fl ys]=>.ok (.ref h.length) (h++[.lst ys])
 |[.ref n]=>match cB h n with
  |some ys=>.ok (.ref h.length) (h++[.lst ys])
  |none=>.bad
 |_=>.bad
theorem X4:Av C k X (.type "list") JR:=λc=>(LJ C.K c.K).imp λvs H Q h=>by
 let⟨φ,h,ps,rh,rv,po⟩:=h;unfold JR at po;split at po
 ·let⟨v,rfl,rx⟩:=rv.one;let⟨a,vs,rfl,sa,ra⟩:=rx;show⟨a,vs,rfl,.inr sa,λp hp=>po.lnew rh ra hp⟩
 ·let⟨v,rfl,rx⟩:=rv.one;let⟨a,vs,rfl,sa,ra⟩:=rx;show⟨a,vs,rfl,.inl sa.sq,λp hp=>po.lnew rh ra hp⟩
 ·rename_i n;let⟨v,rfl,rx⟩:=rv.one;let⟨a,rfl,ha⟩:=rx;split at po
  ·rename_i ys e;let⟨a2,vs,aq,sa,ra⟩:=gR rh e;rw[ha]at aq;cases aq;show⟨a,vs,rfl,.inl sa,λp hp=>po.lnew rh ra hp⟩
  ·show po.elim
 ·show po.elim
variable{C:MC}{k:Nat}{X:Cx}
def Rs.fl{α:Type}(r:Rs α)(f:α->PH->Fl):Fl:=match r with
 |.ok a h=>f a h
 |.exc x h=>.exc x h
 |.bad=>.bad
@[simp]theorem Rs.fl_ok{α:Type}(a:α)(h:PH)(f:α->PH->Fl):(Rs.ok a h).fl f=f a h:=(rfl)
theorem post.fl{r:Rs PV}{f:PV->PH->Fl}{D:Ends}(h:eV C φ H (r.fl f) D):P_ r λv H1=>∃φ1 p h1,φ<+:φ1/\Kp H H1/\q0z 0/\RV C φ1 H1 p v/\eV C φ1 H1 (f p h1) D:=by
 cases r with
 |ok a h'=>exact λφ' v H' p t rh rv=>⟨φ',a,h',p,t,rh,rv,eV.weak p t h⟩
 |exc a h'=>exact h
 |bad=>exact h
theorem eU.fl{r:Rs Bool}{f:Bool->PH->Fl}{D:Ends}(h:eV C φ H (r.fl f) D):eU C φ H r λb H1=>∃φ1 h1,φ<+:φ1/\Kp H H1/\q0z 0/\eV C φ1 H1 (f b h1) D:=by
 cases r with
 |ok a h'=>exact λφ' H' p t rh=>⟨φ',h',p,t,rh,eV.weak p t h⟩
 |exc a h'=>exact h
 |bad=>exact h
theorem eV.nx{D:Ends}(q:eV C φ H (.nx δ h) D)(rh:K_ h)(re:q0q 0):D.nx σ H:=q φ σ H yk (Kp.refl H) rh re
theorem eV.rt{D:Ends}(q:eV C φ H (.rt p h) D)(rh:K_ h)(rv:E_ p v):D.rt v H:=q φ v H yk (Kp.refl H) rh rv
abbrev Mg:=PV->Ev->A_ Ev
abbrev Mgs:=z_ PV->Ev->A_ Ev
def rdG(C:MC)(t:Mg):TG:=λv σ H Q=>∃φ δ h p δ',K_ h/\q0q 0/\E_ p v/\t p δ=a_ δ'/\∀σ',RE C φ H δ' σ'->Q σ' H
def zaE(C:MC)(t:Mgs):TGs:=λvs σ H Q=>∃φ δ h ps δ',K_ h/\q0q 0/\G_ ps vs/\t ps δ=a_ δ'/\∀σ',RE C φ H δ' σ'->Q σ' H
def SG(C:MC)(k:Nat)(X:Cx)(e:x_)(t:Mg):Prop:=q0j X->PG X e (rdG C t)
def SGs(C:MC)(k:Nat)(X:Cx)(es:z_ x_)(t:Mgs):Prop:=q0j X->PGs X es (zaE C t)
def gN(i:Nat):Mg:=λp δ=>a_ (δ.set i (a_ p))
def gNl:Mgs:=λps δ=>match ps with
 |[]=>a_ δ
 |_::_=>b_
def gCn(t:Mg)(u:Mgs):Mgs:=λps δ=>match ps with
 |p::r=>(t p δ).bind (u r)
 |[]=>b_
def gTp(n:Nat)(u:Mgs):Mg:=λp δ=>match p with
 |.tup ps=>if ps.length=n then u ps δ else b_
 |_=>b_
theorem PG.imp{t t':TG}(h:PG X e t)(i:∀v σ H Q,t' v σ H Q->t v σ H Q):PG X e t':=λP1 s σ H v u Q I r q=>q0t v u Q I r (i v σ H Q q)
theorem PGs.imp{t t':TGs}(h:PGs X es t)(i:∀v σ H Q,t' v σ H Q->t v σ H Q):PGs X es t':=λP1 s σ H v u Q I r q=>q0t v u Q I r (i v σ H Q q)
theorem bC(hN:X.N.Nodup)(hi:X.N[i]?=a_ x:=by rfl)(hx:Loc X.env.scope x:=by first|exact Or.inl rfl|exact Or.inr rfl)(hf:X.fn x=true\/q0c 0=a_ .local:=by first|exact .inl rfl|exact .inr rfl):SG C k X (.Name x pos) (gN i):=λc=>
 (Tn hN hi hx hf).imp λv σ H Q h=>by
  let⟨φ,δ,h,p,δ',rh,re,rv,e,q⟩:=h;cases e
  show q _ (re.set rv i)
theorem pY:SGs C k X [] gNl:=λc=>To.imp λv σ H Q h=>by
 let⟨φ,δ,h,ps,δ',rh,re,rv,e,q⟩:=h;cases ps with
 |nil=>
  cases e
  cases v with
  |nil=>exact⟨rfl,q σ re⟩
  |cons=>exact rv.elim
 |cons=>cases e
theorem bT{t:Mg}{u:Mgs}(h1:SG C k X e t)(h2:SGs C k X es u)(hs:(y1I (e::es) X.env).map (·.2)=assign e X.env::(y1I es X.env).map (·.2):=by rfl):SGs C k X (e::es) (gCn t u):=λc=>
 (PP (h1 c) (h2 c) hs).imp λvs σ H Q h=>by
  let⟨φ,δ,h,ps,δ',rh,re,rv,e,q⟩:=h;cases ps with
  |nil=>cases e
  |cons p r=>
   cases vs with
   |nil=>exact rv.elim
   |cons v vs=>
    let⟨δ1,e1,e2⟩:=Option.bind_eq_some_iff.mp (show(t p δ).bind (u r)=a_ δ' from e)
    show⟨v,vs,rfl,φ,δ,h,p,δ1,rh,re,rv.1,e1,λσ' qb=>⟨φ,δ1,h,r,δ',rh,qb,rv.2,e2,q⟩⟩
theorem pZ{u:Mgs}(h:SGs C k X es u)(hn:(y1I es X.env).length=n:=by rfl)(bp:(y1I es X.env).findIdx? (·.1)=b_:=by rfl):SG C k X (.Tuple es j pos) (gTp n u):=λc=>
 (gT C.K c.K c.calm (h c) hn bp).imp λv σ H Q h=>by
  let⟨φ,δ,h,p,δ',rh,re,rv,e,q⟩:=h;cases p with
  |tup ps=>
   let⟨a,vs,rfl,sa,ra⟩:=rv;by_cases hl:ps.length=n
   ·let e':u ps δ=a_ δ':=by have:(if ps.length=n then u ps δ else b_)=a_ δ':=e;rw[if_pos hl]at this;show this
    show⟨a,vs,rfl,sa,by rw[<-ra.length];show hl,φ,δ,h,ps,δ',rh,re,ra,e',q⟩
   ·have:(if ps.length=n then u ps δ else b_)=a_ δ':=e;rw[if_neg hl]at this;cases this
  |_=>cases e
theorem PS.imp{t t':TS}(h:PS X st t)(i:∀D σ H,t' D σ H->t D σ H):PS X st t':=λP1 s σ H D I q=>q0t D I (i D σ H q)
theorem PSs.imp{st:z_ y_}{t t':TS}(h:PSs X st t)(i:∀D σ H,t' D σ H->t D σ H):PSs X st t':=λP1 s σ H D I q=>q0t D I (i D σ H q)
def aZ(a b:Ms):Ms:=λδ h=>match a δ h with
 |.nx δ1 h1=>b δ1 h1
 |r=>r
def eY:Ms:=λδ h=>.nx δ h
def dI(i:Nat)(m:Me):Ms:=λδ h=>(m δ h).fl λp h1=>.nx (δ.set i (a_ p)) h1
def AA(m:Me)(t:Mg):Ms:=λδ h=>(m δ h).fl λp h1=>match t p δ with
 |some δ'=>.nx δ' h1
 |none=>.bad
def tM(m:Me):Ms:=λδ h=>(m δ h).fl λ_ h1=>.nx δ h1
def cI(m:Me):Ms:=λδ h=>(m δ h).fl λp h1=>.rt p h1
def eJ(t:Ev->PH->Rs Bool)(a b:Ms):Ms:=λδ h=>(t δ h).fl λc h1=>match c with
 |true=>a δ h1
 |false=>b δ h1
theorem cD:SSs C k X [] eY:=λc=>Th.imp λD σ H h=>by let⟨φ,δ,h,rh,re,p⟩:=h;show p.nx rh re
theorem X5{r:Fl}{b:Ms}{D:Ends}(h:eV C φ H (match r with|.nx δ1 h1=>b δ1 h1|r=>r) D):eV C φ H r { D with nx:=rdS C b D}:=by
 cases r with
 |nx δ h'=>exact λφ' σ H' p t rh re=>⟨φ',δ,h',rh,re,eV.weak p t h⟩
 |rt p h'=>exact h
 |bk δ h'=>exact h
 |ct δ h'=>exact h
 |exc x h'=>exact h
 |bad=>exact h
theorem aJ{rest:z_ y_}{a:Ms}{b:Ms}(h1:SSt C k X st a)(h2:SSs C k X rest b):SSs C k X (st::rest) (aZ a b):=λc=>(PM (h1 c) (h2 c)).imp λD σ H h=>by let⟨φ,δ,h,rh,re,p⟩:=h;show⟨φ,δ,h,rh,re,X5 p⟩
theorem aP{a:Ms}(h1:SSt C k X st a):SSs C k X [st] a:=λc=>Ti (h1 c)
theorem cX(hN:X.N.Nodup)(he:I_ e m)(hi:X.N[i]?=a_ x:=by rfl)(hx:Loc X.env.scope x:=by first|exact Or.inl rfl|exact Or.inr rfl)(hs:swapsWith e (a_ (.Name x pos')) pos.line X.env=pure false:=by rfl)(hf:X.fn x=true\/q0c 0=a_ .local:=by first|exact .inl rfl|exact .inr rfl):SSt C k X (.Assign [.Name x pos'] e pos) (dI i m):=λc=>(Wc hN hi hx (he c) hs hf).imp λD σ H h=>by let⟨φ,δ,h,rh,re,p⟩:=h;refine⟨φ,δ,h,rh,re,(post.fl p).imp ?_⟩;rintro v H1 ⟨φ1,x,h1,p1,t1,af,ag,q1⟩;show q1.nx af ((U_ 0).set ag i)
theorem yS{t:Mg}(he:I_ e m)(hg:SG C k X tg t)(hs:swapsWithSole [tg] e pos.line X.env=pure false:=by rfl)(hw:swappedStores [tg] e X.env=pure b_:=by rfl)(h1:(y1I [tg] X.env).map (·.2)=[assign tg X.env]:=by rfl):SSt C k X (.Assign [tg] e pos) (AA m t):=λc=>(Wb (he c) (hg c) hs hw h1).imp λD σ H h=>by
 let⟨φ,δ,h,rh,re,p⟩:=h;refine⟨φ,δ,h,rh,re,(post.fl p).imp ?_⟩;rintro v H1 ⟨φ1,x,h1,p1,t1,af,ag,q1⟩;cases et:t x δ with
 |none=>rw[et]at q1;show q1.elim
 |some δ'=>rw[et]at q1;show⟨φ1,δ,h1,x,δ',af,U_ 0,ag,et,λσ' qb=>q1.nx af qb⟩
theorem uS(he:I_ e m)(hs:swapsWith e b_ pos.line X.env=pure false:=by rfl):SSt C k X (.Expr e pos) (tM m):=λc=>(Tj (he c) hs).imp λD σ H h=>by let⟨φ,δ,h,rh,re,p⟩:=h;refine⟨φ,δ,h,rh,re,(post.fl p).imp ?_⟩;rintro v H1 ⟨φ1,x,h1,p1,t1,af,ag,q1⟩;show q1.nx af (U_ 0)
theorem bN(he:I_ e m):SSt C k X (.Return (a_ e) pos) (cI m):=λc=>(W9 (he c)).imp λD σ H h=>by let⟨φ,δ,h,rh,re,p⟩:=h;refine⟨φ,δ,h,rh,re,(post.fl p).imp ?_⟩;rintro v H1 ⟨φ1,x,h1,p1,t1,af,ag,q1⟩;show q1.rt af ag
variable{o8:x_}
theorem iR{a:Ms}{b:Ms}{as bs:z_ y_}{t:Ev->PH->Rs Bool}(hc:ST C k X o8 t)(ha:SSs C k X as a)(hb:SSs C k X bs b):SSt C k X (.If o8 as bs pos) (eJ t a b):=λc=>(Yk (hc c) (ha c) (hb c)).imp λD σ H h=>by
 let⟨φ,δ,h,rh,re,p⟩:=h;refine⟨φ,δ,h,rh,re,(eU.fl p).imp ?_⟩;rintro d H1 ⟨φ1,h1,p1,t1,af,q1⟩;cases d with
 |true=>exact LG ⟨φ1,δ,h1,af,U_ 0,q1⟩
 |false=>exact LF ⟨φ1,δ,h1,af,U_ 0,q1⟩
structure Wk where
 xs:z_ PV
 g:PH->Bool
def OD(C:MC)(J:It)(w:Wk)(φ0:z_ td)(H0:Hp):Prop:=∀φ H h,φ0<+:φ->Kp H0 H->K_ h->w.g h=true->∀i:Nat,
 (i<w.xs.length->J.go i H/\∀x H',J.yld i H x H'->(∃p,w.xs[i]?=a_ p/\RV C φ H' p x)/\Kp H H'/\RH C φ H' h)/\(w.xs.length<=i->J.stop i H)
abbrev Mi:=Ev->PH->Rs Wk
def mB(C:MC)(φ:z_ td)(H:Hp)(r:Rs Wk)(R:It->Hp->Prop):Prop:=match r with
 |.ok w h=>∀φ' H' J,φ<+:φ'->Kp H H'->q0u h->OD C J w φ' H'->R J H'
 |.exc x h=>∀φ' H',φ<+:φ'->Kp H H'->q0u h->C.ex φ' H' x
 |.bad=>False
def rdI(C:MC)(m:Mi):TI:=λσ H R=>∃φ δ h,K_ h/\q0q 0/\mB C φ H (m δ h) R
def SI(C:MC)(k:Nat)(X:Cx)(tg iter:x_)(m:Mi):Prop:=q0j X->PI X tg iter (rdI C m)
def JS(n:Nat)(xs:z_ PV)(h':PH):Bool:=match cB h' n with
 |some ys=>PV.beqs ys xs
 |none=>false
def ofSeq(x:PV)(h:PH):Rs Wk:=match x with
 |.tup xs=>.ok ⟨xs,λ_=>true⟩ h
 |.ref n=>match cB h n with
  |some xs=>.ok ⟨xs,JS n xs⟩ h
  |none=>.bad
 |.fl xs=>.ok ⟨xs,λ_=>true⟩ h
 |_=>.bad
def dM(m:Me):Mi:=λδ h=>(m δ h).bind ofSeq
theorem nW(h:I_ iter m):SI C k X tg iter (dM m):=λc=>by
 intro P1 s σ H R I q;let⟨φ,δ,hh,rh,re,p⟩:=q;let key:rd C m σ H λv H1=>∃φ1 x h1,φ<+:φ1/\Kp H H1/\q0z 0/\RV C φ1 H1 x v/\mB C φ1 H1 (ofSeq x h1) R:=by
  refine⟨φ,δ,hh,rh,re,?_⟩;unfold dM at p;cases e:m δ hh with
  |ok x h1=>
   rw[e]at p;intro φ' v H' p' t' cg bt;refine⟨φ',x,h1,p',t',cg,bt,?_⟩
   change mB C φ' H' (ofSeq x h1) R
   let p0:mB C φ H (ofSeq x h1) R:=p;cases e2:ofSeq x h1 with
   |ok w h2=>rw[e2]at p0;show λφ2 H2 J p2 t2=>p0 φ2 H2 J (p'.trans p2) (t'.trans t2)
   |exc z h2=>rw[e2]at p0;show λφ2 H2 p2 t2=>p0 φ2 H2 (p'.trans p2) (t'.trans t2)
   |bad=>rw[e2]at p0;show p0
  |exc x h1=>rw[e]at p;show p
  |bad=>rw[e]at p;show p
 refine thn (h c P1 s σ H _ I key) λv s1 hz=>?_;let⟨x,H1,I1,r1,φ1,x',h1,p1,t1,af,ag,q1⟩:=hz;unfold ofSeq at q1;cases x' with
 |tup xs=>
  let⟨a,vs,rfl,sa,ra⟩:=ag;cases r1
  rw[<-c.K]at sa;let⟨its,rv,p,hz⟩:=I1.tuple sa;refine wpAny_pyIter_tuple (show s1.heap.IsTuple a its.toArray from p) ?_
  refine⟨(e_ s1),[(e_ s1)],_,_,H1,rfl,I1.kept (t':=s1.toks) λb o e=>yc _ e,Ls a _,⟨_,q0O 0,rfl,rfl⟩,λb hb=>?_,?_⟩
  ·let e:b=(e_ s1):=by simpa using hb
   subst e;show I1.fpOk (yg _) (I1.hok.fresh (yg _))
  ·refine q1 φ1 H1 (Itt X.K a) yk (Kp.refl H1) af λφ2 H2 h2 p2 t2 ao _ i=>⟨λhi=>?_,λhi=>⟨vs,t2.sq sa,by rw[<-ra.length];show hi⟩⟩;let aw:i<vs.length:=by rw[<-ra.length];show hi
   refine⟨⟨vs,vs[i],t2.sq sa,by simp[aw]⟩,λx H' y=>?_⟩;let⟨e,y⟩:=y;subst e;let⟨x2,e2,r2⟩:=ra.get (y vs (t2.sq sa));show⟨⟨x2,e2,r2.mono p2 t2⟩,Kp.refl _,ao⟩
 |ref n=>
  let⟨a,rfl,ha⟩:=ag;cases r1
  dsimp only at q1;cases e:cB h1 n with
  |none=>rw[e]at q1;show q1.elim
  |some xs=>
   rw[e]at q1;let⟨a2,vs,aq,sa,ra⟩:=gR af e;rw[ha]at aq;cases aq;let j4:SqL X.K H1 a vs:=by rw[c.K];show sa
   let⟨its,rv,p,hz⟩:=I1.list j4;refine wpAny_pyIter_list p.isList ?_;refine⟨(e_ s1),[(e_ s1)],_,_,H1,rfl,I1.kept (t':=s1.toks) λb o e=>yc _ e,GB a _,⟨_,q0O 0,rfl,rfl⟩,λb hb=>?_,?_⟩
   ·let e:b=(e_ s1):=by simpa using hb
    subst e;show I1.fpOk (yg _) (I1.hok.fresh (yg _))
   ·refine q1 φ1 H1 (Itl X.K a) yk (Kp.refl H1) af λφ2 H2 h2 p2 t2 ao hg i=>?_;let hg:(match cB h2 n with|some ys=>PV.beqs ys xs|none=>false)=true:=hg
    cases e2:cB h2 n with
    |none=>rw[e2]at hg;cases hg
    |some ys=>
     rw[e2]at hg;let hxy:=PV.beqs_eq hg;subst hxy;let⟨a3,us,wa,su,ru⟩:=gR ao e2;rw[lZ p2 ha]at wa;cases wa;rw[<-c.K]at su;refine⟨λhi=>?_,λhi=>⟨us,su,by rw[<-ru.length];show hi⟩⟩;let aw:i<us.length:=by rw[<-ru.length];show hi
     refine⟨⟨us,us[i],su,by simp[aw]⟩,λx H' y=>?_⟩;let⟨e,y⟩:=y;subst e;let⟨x2,e2,r2⟩:=ru.get (y us su);show⟨⟨x2,e2,r2⟩,Kp.refl _,ao⟩
 |fl xs=>
  let⟨a,vs,rfl,sa,ra⟩:=ag;cases r1
  rw[<-c.K]at sa;let⟨its,rv,p,hz⟩:=I1.list sa.sq;refine wpAny_pyIter_list p.isList ?_;refine⟨(e_ s1),[(e_ s1)],_,_,H1,rfl,I1.kept (t':=s1.toks) λb o e=>yc _ e,GB a _,⟨_,q0O 0,rfl,rfl⟩,λb hb=>?_,?_⟩
  ·let e:b=(e_ s1):=by simpa using hb
   subst e;show I1.fpOk (yg _) (I1.hok.fresh (yg _))
  ·refine q1 φ1 H1 (Itl X.K a) yk (Kp.refl H1) af λφ2 H2 h2 p2 t2 ao _ i=>⟨λhi=>?_,λhi=>⟨vs,(t2.sf sa).sq,by rw[<-ra.length];show hi⟩⟩;let aw:i<vs.length:=by rw[<-ra.length];show hi
   refine⟨⟨vs,vs[i],(t2.sf sa).sq,by simp[aw]⟩,λx H' y=>?_⟩;let⟨e,y⟩:=y;subst e;let⟨x2,e2,r2⟩:=ra.get (y vs (t2.sf sa).sq);show⟨⟨x2,e2,r2.mono p2 t2⟩,Kp.refl _,ao⟩
 |_=>exact q1.elim
def upTo(lo:Int):Nat->z_ PV
 |0=>[]
 |n+1=>.int lo::upTo (lo+1) n
theorem nX:∀(n:Nat)(lo:Int),(upTo lo n).length=n
 |0,_=>rfl
 |n+1,lo=>by simp[upTo,nX n]
theorem EA:∀(n:Nat)(lo:Int)(i:Nat),i<n->(upTo lo n)[i]?=d_ (lo+i)
 |0,_,_,h=>by omega
 |n+1,lo,0,_=>by simp[upTo]
 |n+1,lo,i+1,h=>by
  simp only[upTo,y0X];rw[EA n (lo+1) i ⋯];congr 2;omega
open Classical in
noncomputable def Nl:z_ PV->PH->Rs Wk:=λxs h=>match xs with
 |[.int j]=>if -(2 ^ 62)<=j/\j<2 ^ 62 then .ok ⟨upTo 0 j.toNat,λ_=>true⟩ h else .bad
 |_=>.bad
noncomputable def vN(ms:Ma):Mi:=λδ h=>(ms δ h).bind Nl
theorem X6(lo:Int)(n:Nat)(φ:z_ td)(H:Hp):OD C (Itr lo n) ⟨upTo lo n,λ_=>true⟩ φ H:=λφ2 H2 h2 p2 t2 ao _ i=>by
 refine⟨λhi=>?_,λhi=>?_⟩
 ·let aw:i<n:=by rw[<-nX n lo];show hi
  refine⟨aw,λx H' y=>?_⟩;let⟨e,y⟩:=y;subst e y;show⟨⟨.int (lo+i),EA n lo i aw,rfl⟩,Kp.refl _,ao⟩
 ·have:(upTo lo n).length<=i:=hi;rw[nX]at this;show this
theorem postA.bindI{r:Rs (z_ PV)}{f:z_ PV->PH->Rs Wk}{R:It->Hp->Prop}(h:mB C φ H (r.bind f) R):postA C φ H r λvs H1=>∃φ1 ps h1,φ<+:φ1/\Kp H H1/\q0z 0/\RVs C φ1 H1 ps vs/\mB C φ1 H1 (f ps h1) R:=by
 cases r with
 |ok a h'=>
  intro φ' v H' p' t' rh rv;refine⟨φ',a,h',p',t',rh,rv,?_⟩;let p0:mB C φ H (f a h') R:=h;cases e2:f a h' with
  |ok w h2=>rw[e2]at p0;show λφ2 H2 J p2 t2=>p0 φ2 H2 J (p'.trans p2) (t'.trans t2)
  |exc z h2=>rw[e2]at p0;show λφ2 H2 p2 t2=>p0 φ2 H2 (p'.trans p2) (t'.trans t2)
  |bad=>rw[e2]at p0;show p0
 |exc a h'=>exact h
 |bad=>exact h
theorem PI.imp{t t':TI}(h:PI X tg iter t)(i:∀σ H R,t' σ H R->t σ H R):PI X tg iter t':=λP1 s σ H R I q=>q0t R I (i σ H R q)
theorem Ih{x:x_}{p:Pos}(ha:SA C k X [x] ms)(hb:("range" : Str)∈C.bs:=by decide)(hg:Gl X "range" := by rfl)(hs:yz [x] X.env=[(false,eval x X.env)]:=by rfl):SI C k X tg (.Call (.Name "range" p) [x] [] pos) (vN ms):=λc=>
 (pr1 hg (c.bn _ hb) (ha c) hs).imp λσ H R h=>by
  let⟨φ,δ,h,rh,re,p⟩:=h;refine⟨φ,δ,h,rh,re,(postA.bindI p).imp ?_⟩;rintro vs H1 ⟨φ1,xs,h1,p1,t1,af,ag,q1⟩;unfold Nl at q1;split at q1
  ·let⟨v,rfl,rx⟩:=ag.one;cases rx
   rename_i j;by_cases hj:-(2 ^ 62)<=j/\j<2 ^ 62
   ·rw[if_pos hj]at q1;show⟨hj,q1 φ1 H1 _ yk (Kp.refl _) af (X6 0 j.toNat φ1 H1)⟩
   ·rw[if_neg hj]at q1;show q1.elim
  ·show q1.elim
def qA(g:PH->Bool)(tg:Mg)(body:Ms):z_ PV->Ev->PH->Fl
 |[],δ,h=>if g h=true then .nx δ h else .bad
 |x::xs,δ,h=>if g h=true then(match tg x δ with
  |none=>.bad
  |some δ1=>match body δ1 h with
   |.nx δ2 h2=>qA g tg body xs δ2 h2
   |.ct δ2 h2=>qA g tg body xs δ2 h2
   |.bk δ2 h2=>.nx δ2 h2
   |r=>r) else .bad
def rD(mi:Mi)(tg:Mg)(body:Ms):Ms:=λδ h=>(mi δ h).fl λw h1=>qA w.g tg body w.xs δ h1
theorem mB.fl{r:Rs Wk}{f:Wk->PH->Fl}{D:Ends}(h:eV C φ H (r.fl f) D):mB C φ H r λJ H1=>∃φ1 w h1,φ<+:φ1/\Kp H H1/\q0z 0/\OD C J w φ1 H1/\eV C φ1 H1 (f w h1) D:=by
 cases r with
 |ok a h'=>exact λφ' H' J p t rh wk=>⟨φ',a,h',p,t,rh,wk,eV.weak p t h⟩
 |exc a h'=>exact h
 |bad=>exact h
theorem mB.imp{r:Rs Wk}{Q Q':It->Hp->Prop}(h:mB C φ H r Q)(i:∀v H',Q v H'->Q' v H'):mB C φ H r Q':=by
 cases r with
 |ok a h'=>exact λφ' H' J p t rh wk=>i J H' (h φ' H' J p t rh wk)
 |exc a h'=>exact h
 |bad=>exact h
theorem drop_cons{α:Type}{xs:z_ α}{p:α}(h:xs[i]?=a_ p):xs.drop i=p::xs.drop (i+1):=by let⟨h1,h2⟩:=xt.mp h;rw[List.drop_eq_getElem_cons h1,h2]
variable{H0:Hp}{J:It}{φ0:z_ td}
theorem U'{w:Wk}{tg:Mg}{body:Ms}{D:Ends}(wk:OD C J w φ0 H0)(rh:RH C φ0 H0 h)(re:RE C φ0 H0 δ σ)(p:eV C φ0 H0 (qA w.g tg body w.xs δ h) D):
  ∃W:Nat->Nat->St->Hp->Prop,(∃m,W 0 m σ H0)/\∀i m σ H,W i m σ H->
   (J.stop i H/\D.nx σ H)\/(J.go i H/\∃N:St->Hp->Prop,(∀σ' H',N σ' H'->∃m',m'<m/\W (i+1) m' σ' H')/\∀x H',J.yld i H x H'->rdG C tg x σ H' λσ2 H2=>rdS C body { D with nx:=N,ct:=N,bk:=D.nx} σ2 H2):=by
 refine⟨λi m σ H=>m=w.xs.length-i/\i<=w.xs.length/\∃φ δ h,φ0<+:φ/\Kp H0 H/\K_ h/\q0q 0/\eV C φ H (qA w.g tg body (w.xs.drop i) δ h) D,
  ⟨w.xs.length,by simp,y9 _,φ0,δ,h,yk,Kp.refl _,rh,re,by rw[List.drop_zero];show p⟩,?_⟩
 rintro i m σ H ⟨rfl,hi,φ,δ,h,pp,tt,rh,re,p⟩;by_cases ak:i<w.xs.length
 ·let hd:w.xs.drop i=w.xs[i]::w.xs.drop (i+1):=drop_cons (by simp[ak]);rw[hd]at p;unfold qA at p;by_cases hg:w.g h=true
  ·rw[if_pos hg]at p;let⟨go,step⟩:=(wk φ H h pp tt rh hg i).1 ak;refine .inr ⟨go,λσ' H'=>∃φ δ h,φ0<+:φ/\Kp H0 H'/\RH C φ H' h/\RE C φ H' δ σ'/\eV C φ H' (qA w.g tg body (w.xs.drop (i+1)) δ h) D,λσ' H' ⟨φ',δ',h',q⟩=>⟨w.xs.length-(i+1),⋯,rfl,ak,φ',δ',h',q⟩,λx H' y=>?_⟩;let⟨⟨q,eq,rv⟩,t1,af⟩:=step x H' y;let q0:w.xs[i]=q:=by
    have:w.xs[i]?=a_ w.xs[i]:=by simp[ak]
    rw[this]at eq;show yx eq
   rw[q0]at p;cases et:tg q δ with
   |none=>rw[et]at p;show p.elim
   |some δ1=>
    rw[et]at p;dsimp only at p;refine⟨φ,δ,h,q,δ1,af,re.mono yk t1,rv,et,λσ2 qk=>⟨φ,δ1,h,af,qk,?_⟩⟩;let p:=eV.weak yk t1 p;cases eb:body δ1 h with
    |nx δ2 h2=>rw[eb]at p;show λφ3 σ3 H3 p3 t3 cy j7=>⟨φ3,δ2,h2,pp.trans p3,(tt.trans t1).trans t3,cy,j7,eV.weak p3 t3 p⟩
    |ct δ2 h2=>rw[eb]at p;show λφ3 σ3 H3 p3 t3 cy j7=>⟨φ3,δ2,h2,pp.trans p3,(tt.trans t1).trans t3,cy,j7,eV.weak p3 t3 p⟩
    |bk δ2 h2=>rw[eb]at p;show p
    |rt z h2=>rw[eb]at p;show p
    |exc z h2=>rw[eb]at p;show p
    |bad=>rw[eb]at p;show p
  ·rw[if_neg hg]at p;show p.elim
 ·let e:i=w.xs.length:=⋯;subst e;rw[List.drop_length]at p;unfold qA at p;by_cases hg:w.g h=true
  ·rw[if_pos hg]at p;show .inl ⟨(wk φ H h pp tt rh hg _).2 (yg _),p.nx rh re⟩
  ·rw[if_neg hg]at p;show p.elim
variable{body:z_ y_}{mi:Mi}
theorem yT{t:Mg}{mb:Ms}(hi:SI C k X tg iter mi)(hg:SG C k X tg t)(hb:SSs C k X body mb)(hp:PassesOwn (g_ X) X.A X.env X.xe:=by show PassesOwn.never)(hs:∀x,y1y iter X.env x=pure x:=by intro _;rfl):SSt C k X (.For tg iter body [] pos) (rD mi t mb):=λc=>(We hp c.calm (hi c) (hg c) (hb c) hs).imp λD σ H h=>by let⟨φ,δ,h,rh,re,p⟩:=h;refine⟨φ,δ,h,rh,re,(mB.fl p).imp ?_⟩;rintro J H1 ⟨φ1,w,h1,p1,t1,af,wk,q1⟩;show U' wk af (U_ 0) q1
def Ha(t:Ev->PH->Rs Bool)(body:Ms):Nat->Ev->PH->Fl
 |0,_,_=>.bad
 |n+1,δ,h=>(t δ h).fl λb h1=>match b with
  |false=>.nx δ h1
  |true=>match body δ h1 with
   |.nx δ2 h2=>Ha t body n δ2 h2
   |.ct δ2 h2=>Ha t body n δ2 h2
   |.bk δ2 h2=>.nx δ2 h2
   |r=>r
def Ii(n:Nat)(t:Ev->PH->Rs Bool)(body:Ms):Ms:=Ha t body n
theorem Ua{t:Ev->PH->Rs Bool}{mb:Ms}(hc:ST C k X o8 t)(hb:SSs C k X body mb)(hp:PassesOwn (g_ X) X.A X.env X.xe:=by show PassesOwn.never):SSt C k X (.While o8 body [] pos) (Ii n t mb):=λc=>
 (PQ hp (hc c) (hb c)).imp λD σ H h=>by
  refine⟨λm σ H=>∃φ δ h,K_ h/\q0q 0/\eV C φ H (Ha t mb m δ h) D,⟨n,h⟩,?_⟩;rintro m σ H ⟨φ,δ,h,rh,re,p⟩;cases m with
  |zero=>exact p.elim
  |succ m=>
   refine⟨φ,δ,h,rh,re,(eU.fl p).imp ?_⟩;rintro b H1 ⟨φ1,h1,p1,t1,af,q1⟩;cases b with
   |false=>exact LF (q1.nx af (U_ 0))
   |true=>
    refine LG ⟨λσ' H'=>∃φ δ h,RH C φ H' h/\RE C φ H' δ σ'/\eV C φ H' (Ha t mb m δ h) D,λσ' H' q=>⟨m,Nat.lt_succ_self m,q⟩,φ1,δ,h1,af,U_ 0,?_⟩;dsimp only at q1;cases eb:mb δ h1 with
    |nx δ2 h2=>rw[eb]at q1;show λφ3 σ3 H3 p3 t3 cy j7=>⟨φ3,δ2,h2,cy,j7,eV.weak p3 t3 q1⟩
    |ct δ2 h2=>rw[eb]at q1;show λφ3 σ3 H3 p3 t3 cy j7=>⟨φ3,δ2,h2,cy,j7,eV.weak p3 t3 q1⟩
    |bk δ2 h2=>rw[eb]at q1;show q1
    |rt z h2=>rw[eb]at q1;show q1
    |exc z h2=>rw[eb]at q1;show q1
    |bad=>rw[eb]at q1;show q1
variable{C:MC}{k:Nat}{X:Cx}
def nY(js:z_ (A_ Nat))(δ:Ev):Ev:=js.map λo=>match o with
 |none=>b_
 |some j=>Ib δ j
theorem Np:∀{σ:St}{i:Nat}{v:V},σ[i]?=a_ (a_ v)->LH σ i=a_ v
 |[],_,_,h=>by simp at h
 |x::_,0,v,h=>by
  have:x=a_ v:=by simpa using h
  show this
 |_::r,n+1,v,h=>Np (σ:=r) (i:=n) (k_ h)
theorem RE.cap(re:q0q 0)(js:z_ (A_ Nat)):RE C φ H (nY js δ) (tI js σ):=by
 refine⟨by simp[nY,tI],λi p e=>?_⟩;unfold nY at e;unfold tI;rw[yy]at e⊢;cases q:js[i]? with
 |none=>rw[q]at e;cases e
 |some o=>
  rw[q]at e;cases o with
  |none=>cases e
  |some j=>let⟨v,hv,rv⟩:=re.2 j p (Er (yx e));show⟨v,by change a_ (LH σ j)=_;rw[Np hv],rv⟩
def uT(g:PH->Bool)(tg:Mg)(tst:Ev->PH->Rs Bool)(elt:Me)(δ0:Ev)(n:Nat):z_ PV->PH->Rs PV
 |[],h=>if g h=true then .ok (.ref n) h else .bad
 |x::xs,h=>if g h=true then(match tg x δ0 with
  |none=>.bad
  |some δ1=>(tst δ1 h).bind λb h1=>match b with
   |false=>uT g tg tst elt δ0 n xs h1
   |true=>(elt δ1 h1).bind λp h2=>match iU h2 n with
    |some ys=>if ys.length<yo then uT g tg tst elt δ0 n xs (h2.set n (.lst (ys++[p]))) else .bad
    |none=>.bad) else .bad
def gO(js:z_ (A_ Nat))(mi:Mi)(tg:Mg)(tst:Ev->PH->Rs Bool)(elt:Me):Me:=λδ h=>(mi δ h).bind λw h1=>uT w.g tg tst elt (nY js δ) h1.length w.xs (h1++[.lst []])
def oI:Ev->PH->Rs Bool:=λ_ h=>.ok true h
def STs(C:MC)(k:Nat)(X:Cx)(es:z_ x_)(m:Ev->PH->Rs Bool):Prop:=q0j X->PTs X es (rdB C m)
theorem rV:STs C k X [] oI:=λc P1 s σ H Q I h=>by let⟨φ,δ,h,rh,re,p⟩:=h;show TL P1 s σ H Q I (p.val rh)
theorem QE{m:Ev->PH->Rs Bool}(h:ST C k X e m):STs C k X [e] m:=λc=>TM (h c)
theorem mB.bind{r:Rs Wk}{f:Wk->PH->Rs PV}{Q:VK}(h:P_ (r.bind f) Q):mB C φ H r λJ H1=>∃φ1 w h1,φ<+:φ1/\Kp H H1/\q0z 0/\OD C J w φ1 H1/\post C φ1 H1 (f w h1) Q:=by
 cases r with
 |ok a h'=>exact λφ' H' J p t rh wk=>⟨φ',a,h',p,t,rh,wk,post.weak p t h⟩
 |exc a h'=>exact h
 |bad=>exact h
variable{elt:Me}{tst:Ev->PH->Rs Bool}
theorem QF{w:Wk}{tg:Mg}{Q:VK}(wk:OD C J w φ0 H0)(rh:RH C φ0 H0 h)(re:RE C φ0 H0 δ σ)(p:post C φ0 H0 (uT w.g tg tst elt (nY js δ) h.length w.xs (h++[.lst []])) Q)(acc:td)(ah:H0 acc=b_):
  ∃W:Nat->Nat->Hp->Prop,(∃m,W 0 m (upd H0 acc (.lst [])))/\∀i m H2,W i m H2->
   (J.stop i H2/\Q (.ref acc) H2)\/(J.go i H2/\∃N:Hp->Prop,(∀H',N H'->∃m',m'<m/\W (i+1) m' H')/\∀x H3,J.yld i H2 x H3->VI js (rdG C tg) (rdB C tst) (rd C elt) σ acc x H3 N):=by
 let hlen:(φ0++[acc])[h.length]?=a_ acc:=by rw[<-rh.len];simp
 refine⟨λi m H=>m=w.xs.length-i/\i<=w.xs.length/\∃φ h',(φ0++[acc])<+:φ/\Kp H0 H/\K_ h'/\P_ (uT w.g tg tst elt (nY js δ) h.length (w.xs.drop i) h') Q,
  ⟨w.xs.length,by simp,y9 _,φ0++[acc],h++[.lst []],yk,Kp.new ah,rh.new (o:=.lst []) ah ⟨[],bP,trivial⟩,by rw[List.drop_zero];show post.weak (zy _ _) (Kp.new ah) p⟩,?_⟩
 rintro i m H ⟨rfl,hi,φ,h',pp,tt,cg,p⟩;let u1:φ0<+:φ:=(zy _ _).trans pp;by_cases ak:i<w.xs.length
 ·let hd:w.xs.drop i=w.xs[i]::w.xs.drop (i+1):=drop_cons (by simp[ak]);rw[hd]at p;unfold uT at p;by_cases hg:w.g h'=true
  ·rw[if_pos hg]at p;let⟨go,step⟩:=(wk φ H h' u1 tt cg hg i).1 ak;refine .inr ⟨go,λH'=>∃φ h',(φ0++[acc])<+:φ/\Kp H0 H'/\RH C φ H' h'/\post C φ H' (uT w.g tg tst elt (nY js δ) h.length (w.xs.drop (i+1)) h') Q,λH' ⟨φ',h',q⟩=>⟨w.xs.length-(i+1),⋯,rfl,ak,φ',h',q⟩,λx H' y=>?_⟩;let⟨⟨q,eq,rv⟩,t1,af⟩:=step x H' y;let q0:w.xs[i]=q:=by
    have:w.xs[i]?=a_ w.xs[i]:=by simp[ak]
    rw[this]at eq;show yx eq
   rw[q0]at p;cases et:tg q (nY js δ) with
   |none=>rw[et]at p;show p.elim
   |some δ1=>
    rw[et]at p;let qq:RE C φ H' (nY js δ) (tI js σ):=(re.mono u1 (tt.trans t1)).cap js;refine⟨φ,nY js δ,h',q,δ1,af,qq,rv,et,λσ2 qk=>⟨φ,δ1,h',af,qk,(eU.bind (post.weak yk t1 p)).imp ?_⟩⟩;rintro b H5 ⟨φ5,h5,p5,t5,rh5,q5⟩;cases b with
    |false=>exact LF ⟨φ5,h5,pp.trans p5,(tt.trans t1).trans t5,rh5,q5⟩
    |true=>
     refine LG ⟨φ5,δ1,h5,rh5,qk.mono p5 t5,(post.bind q5).imp ?_⟩;rintro v H6 ⟨φ6,z,h6,p6,t6,rh6,rv6,q6⟩;cases e6:iU h6 h.length with
     |none=>rw[e6]at q6;show q6.elim
     |some ys=>
      rw[e6]at q6;let⟨hz,q6⟩:=q6.ite;let hφ:φ6[h.length]?=a_ acc:=lZ ((pp.trans p5).trans p6) hlen;let⟨vs,hH,iq⟩:=rh6.at' h.length acc _ hφ (sH e6);refine⟨vs,hH,by rw[<-iq.length];show hz,φ6,h6.set h.length (.lst (ys++[z])),(pp.trans p5).trans p6,(((tt.trans t1).trans t5).trans t6).trans (Kp.lst hH),
       rh6.write hφ (by rw[hH];trivial) ⟨vs++[v],bP,(iq.snoc rv6).mono yk (Kp.lst hH)⟩,post.weak yk (Kp.lst hH) q6⟩
  ·rw[if_neg hg]at p;show p.elim
 ·let e:i=w.xs.length:=⋯;subst e;rw[List.drop_length]at p;unfold uT at p;by_cases hg:w.g h'=true
  ·rw[if_pos hg]at p;show .inl ⟨(wk φ H h' u1 tt cg hg _).2 (yg _),p.val cg ⟨acc,rfl,lZ pp hlen⟩⟩
  ·rw[if_neg hg]at p;show p.elim
theorem Nq{tg:Mg}{Q:VK}(h:rd C (gO js mi tg tst elt) σ H Q):Nc js (rdI C mi) (rdG C tg) (rdB C tst) (rd C elt) σ H Q:=by let⟨φ,δ,h,rh,re,p⟩:=h;refine⟨φ,δ,h,rh,re,(mB.bind p).imp ?_⟩;rintro J H1 ⟨φ1,w,h1,p1,t1,af,wk,q1⟩;intro acc ah;show QF wk af (U_ 0) q1 acc ah
theorem qB{elt:x_}{g:Mg}{tt:Ev->PH->Rs Bool}(fw:X.env.scope=os)(i8:X.N=oN)(ok:zC os oN sc N js=true)(hi:SI C k X tg iter mi)(hg:∀C' fp s₀ H₀,SG C k (W_ C' fp s₀ H₀) tg g)(ht:∀C' fp s₀ H₀,STs C k (W_ C' fp s₀ H₀) ifs tt)(he:∀C' fp s₀ H₀,SE C k (W_ C' fp s₀ H₀) elt me)(hs:∀x,y1y iter X.env x=pure x:=by intro _;rfl):I_ (.ListComp elt [⟨tg,iter,ifs,0⟩] sc pos) (gO js mi g tt me):=λc=>(TN c.calm fw i8 ok (hi c) (λa b s H=>hg a b s H (c.comp sc N a b s H)) (λa b s H=>ht a b s H (c.comp sc N a b s H)) (λa b s H=>he a b s H (c.comp sc N a b s H)) hs).imp λσ H Q h=>Nq h
theorem OE{elt:x_}{g:Mg}{tt:Ev->PH->Rs Bool}(hN:X.N.Nodup)(f6:X.N[i]?=a_ x)(jf:q0c 0=a_ .local)(fw:X.env.scope=os)(i8:X.N=oN)(ok:zC os oN sc N js=true)(hi:SI C k X tg iter mi)(hg:∀C' fp s₀ H₀,SG C k (W_ C' fp s₀ H₀) tg g)(ht:∀C' fp s₀ H₀,STs C k (W_ C' fp s₀ H₀) ifs tt)(he:∀C' fp s₀ H₀,SE C k (W_ C' fp s₀ H₀) elt me)(vd:swapsWith (.ListComp elt [⟨tg,iter,ifs,0⟩] sc pos) (a_ (.Name x pos')) gq.line X.env=pure true:=by rfl)(hs:∀x,y1y iter X.env x=pure x:=by intro _;rfl):SSt C k X (.Assign [.Name x pos'] (.ListComp elt [⟨tg,iter,ifs,0⟩] sc pos) gq) (dI i (gO js mi g tt me)):=λc=>(LI hN f6 jf c.calm fw i8 ok (hi c) (λa b s H=>hg a b s H (c.comp sc N a b s H)) (λa b s H=>ht a b s H (c.comp sc N a b s H)) (λa b s H=>he a b s H (c.comp sc N a b s H)) vd hs).imp λD σ H h=>by let⟨φ,δ,h,rh,re,p⟩:=h;refine Nq ⟨φ,δ,h,rh,re,(post.fl p).imp ?_⟩;rintro v H1 ⟨φ1,x,h1,p1,t1,af,ag,q1⟩;show q1.nx af ((U_ 0).set ag i)
def mFn(N:Nat)(body:Ms):Fn:=λargs h=>match body (args.map a_++y2d (N-args.length) b_) h with
 |.nx _ h'=>.ok .non h'
 |.rt p h'=>.ok p h'
 |.exc x h'=>.exc x h'
 |_=>.bad
theorem RE.start{ps:z_ PV}(r:G_ ps vs)(N:z_ Str):RE C φ H (ps.map a_++y2d (N.length-ps.length) b_) (start N vs):=by
 unfold L2.start;refine⟨by simp[r.length],λi p e=>?_⟩;by_cases hi:i<ps.length
 ·rw[zw (k_ hi),yy]at e;rw[zw (by simpa[<-r.length] using hi),yy]
  cases q:ps[i]? with
  |none=>rw[q]at e;cases e
  |some x=>
   rw[q]at e;cases e
   let⟨v,hv,rv⟩:=r.at q;show⟨v,by rw[hv];rfl,rv⟩
 ·rw[y0E (k_ hi)]at e;rw[List.getElem?_replicate]at e;split at e
  ·cases e
  ·cases e
theorem bY{f:td}{body:Ms}(hex:∀φ H x,¬ C.ex φ H x)(hbn:∀x∈C.bs,mg x=b_)(F:Fun C.K x qual st f fd)(S:aV N ps (aO st))(hb:∀(cdv:r_)(A:u_)(outer:z_ Env)(s:s_)(H:Hp)(E:XK),SSs C k (LA CX0 P C.w C.K mg base N qual (aO st) f cdv A outer s H E).nox (jP st) body):
  bD P C.w C.K mg base CX0 (k+1) f fd ps (spM C ps.length (mFn N.length body)):=by
 refine F.ok S (λvs H Q E h=>?_) (λcdv A outer s H vs Q E hr h=>?_)
 ·let⟨φ,h,xs,rh,rv,hl,_⟩:=h;rw[<-rv.length];show hl
 ·let⟨φ,h,xs,rh,rv,hl,p⟩:=h;refine⟨_,hb cdv A outer s H E ⟨rfl,rfl,hr,hbn,rfl⟩,φ,xs.map a_++y2d (N.length-xs.length) b_,h,rh,RE.start rv N,?_⟩;unfold mFn at p;cases e:body (xs.map a_++y2d (N.length-xs.length) b_) h with
  |nx δ h'=>rw[e]at p;show λφ' σ' H' pp tt cg qb=>p φ' .non H' pp tt cg rfl
  |rt z h'=>rw[e]at p;show p
  |exc z h'=>rw[e]at p;show λφ' H' pp tt cg=>(hex _ _ _ (p φ' H' pp tt cg)).elim
  |bk δ h'=>rw[e]at p;show p.elim
  |ct δ h'=>rw[e]at p;show p.elim
  |bad=>rw[e]at p;show p.elim
theorem X7{f:Fn}{Q:VK}{E:XK}(hO:Qe H)(ho:SqL C.K H a (q1x 0))(hf:∃h,f [.fl (q1s 0)] []=.ok (.bl true) h)(hQ:∀H',Q (.bl true) H'):spM C 1 f [.ref a] H Q E:=by
 let r0:∀ns:z_ Int,RVs C [] H (q1s 0) (q1x 0):=by
  intro ns
  induction ns with
  |nil=>trivial
  |cons n ns ih=>exact⟨rfl,ih⟩
 let hs:SqF C.K H a (q1x 0):=by
  rcases ho with(h|⟨o,h⟩)|h
  ·rcases hO a with z|⟨o,xs,z⟩
   ·rw[z]at h;cases h
   ·rw[z]at h;cases h
  ·show .inl ⟨o,h⟩
  ·show .inr h
 refine⟨[],[],[.fl (q1s 0)],⟨rfl,by simp,λn b ob h1 h2=>by simp at h1⟩,⟨⟨a,_,rfl,hs,r0 ns⟩,trivial⟩,rfl,?_⟩;let⟨h,e⟩:=hf;rw[e];intro φ' v H' _ _ _ rv;cases rv
 show hQ H'
variable{C:MC}{k:Nat}{X:Cx}
def tyN(x:PV)(h:PH):A_ String:=match x with
 |.non=>a_ "NoneType"
 |.bl _=>a_ "bool"
 |.int _=>a_ "int"
 |.str _=>a_ "str"
 |.tup _=>a_ "tuple"
 |.fl _=>a_ "list"
 |.ref n=>match h[n]? with
  |some (.lst _)=>a_ "list"
  |some (.dK _)=>a_ "dict"
  |_=>b_
 |.ty _=>b_
def uU(t c:String):Bool:=t == c || (t == "bool" && c == "int")
def known:z_ String:=["int","str","bool","list","tuple","dict"]
variable{c:String}
theorem X8{t:String}(ht:t∈"NoneType" :: known)(hc:c∈known):PySem.W.kitOne K (.type t) (.type c)=a_ (uU t c):=by simp only[known,yr,List.not_mem_nil,or_false]at ht hc;rcases ht with rfl|rfl|rfl|rfl|rfl|rfl|rfl <;> rcases hc with rfl|rfl|rfl|rfl|rfl|rfl <;> rfl
def yI:z_ PV->PH->Rs PV:=λxs h=>match xs with
 |[x,.ty c]=>match tyN x h with
  |some t=>if c∈known then .ok (.bl (uU t c)) h else .bad
  |none=>.bad
 |_=>.bad
theorem QG(hK:X.K=C.K):gQ X (.builtin "isinstance") (λxs H Q=>∃x c t b,xs=[x,.ty c]/\(Bn C.K H x (.type t)\/(∃a vs,x=.ref a/\SqT C.K H a vs/\t="tuple")\/(∃a vs,x=.ref a/\SqL C.K H a vs/\t="list"))/\PySem.W.kitOne C.K (.type t) (.type c)=a_ b/\Q (.bl b) H):=by
 intro P1 s σ H xs us Q I r h;let⟨x,c,t,b,rfl,ty,e,q⟩:=h;let⟨u,v,rfl,ru,rv⟩:=vals2 r;cases rv
 rw[<-hK]at e ty;rcases ty with ty|⟨a,vs,rfl,sa,rfl⟩|⟨a,vs,rfl,sa,rfl⟩
 ·show Oa I ru ty e λtk=>⟨.bl b,H,I.tok tk,rfl,q⟩
 ·cases ru
  let⟨its,_,⟨o,h1,h2,_⟩,_⟩:=I.tuple sa;show y0r PySem.W.kitx_tuple I.kIn ⟨o,h1,h2⟩ e (λz=>q0N 0) λtk=>⟨.bl b,H,I.tok tk,rfl,q⟩
 ·cases ru
  let⟨its,_,⟨o,n,h1,h2,_⟩,_⟩:=I.list sa;show y0r PySem.W.kitx_list I.kIn ⟨o,h1,h2⟩ e (λz=>q0N 0) λtk=>⟨.bl b,H,I.tok tk,rfl,q⟩
theorem mD:Av C k X (.builtin "isinstance") yI:=λc=>(QG c.K).imp λvs H Q h=>by
 let⟨φ,h,ps,rh,rv,po⟩:=h;unfold yI at po;split at po
 ·rename_i x n;let⟨v,w,rfl,rx,ry⟩:=rv.two;cases ry
  split at po
  ·rename_i t ht;let⟨hn,po⟩:=po.ite;let fin:∀{t:String},t∈"NoneType" :: known->P_ (.ok (.bl (uU t n)) h) Q->PySem.W.kitOne C.K (.type t) (.type n)=a_ (uU t n)/\Q (.bl (uU t n)) H:=λhm po=>⟨X8 hm hn,R_ rfl⟩;unfold tyN at ht;cases x with
   |non=>cases ht;cases rx;show⟨_,n,_,_,rfl,.inl .non,fin nofun po⟩
   |bl b=>cases ht;cases rx;show⟨_,n,_,_,rfl,.inl (.bl _),fin nofun po⟩
   |int b=>cases ht;cases rx;show⟨_,n,_,_,rfl,.inl (.int _),fin nofun po⟩
   |str b=>cases ht;cases rx;show⟨_,n,_,_,rfl,.inl (.str _),fin nofun po⟩
   |tup xs=>
    cases ht
    let⟨a,vs,rfl,sa,ra⟩:=rx;show⟨_,n,_,_,rfl,.inr (.inl ⟨a,vs,rfl,sa,rfl⟩),fin nofun po⟩
   |fl xs=>
    cases ht
    let⟨a,vs,rfl,sa,ra⟩:=rx;show⟨_,n,_,_,rfl,.inr (.inr ⟨a,vs,rfl,sa.sq,rfl⟩),fin nofun po⟩
   |ref m=>
    let⟨a,rfl,ha⟩:=rx;dsimp only at ht;split at ht
    ·rename_i xs hx;cases ht
     let⟨vs,hH,ra⟩:=rh.at' m a _ ha hx;show⟨_,n,_,_,rfl,.inl (.lst hH),fin nofun po⟩
    ·rename_i xs hx;cases ht
     let⟨vs,hH,ra⟩:=rh.at' m a _ ha hx;show⟨_,n,_,_,rfl,.inl (.dK hH),fin nofun po⟩
    ·cases ht
   |ty z=>cases ht
  ·show po.elim
 ·show po.elim
def mMt(ty:PV->PH->Bool)(g:PV->z_ PV->PH->Rs PV)(mo:Me)(ms:Ma):Me:=λδ h=>(mo δ h).bind λx h1=>if ty x h1=true then(ms δ h1).bind λps h2=>g x ps h2 else .bad
def JT(ty:PV->PH->Bool)(g:PV->z_ PV->PH->Rs PV)(mo:Me):Me:=λδ h=>(mo δ h).bind λx h1=>if ty x h1=true then g x [] h1 else .bad
def rM(C:MC)(g:PV->z_ PV->PH->Rs PV):V->z_ V->Hp->VK->Prop:=λx xs H Q=>∃φ h p ps,K_ h/\E_ p x/\G_ ps xs/\P_ (g p ps h) Q
def MtS(C:MC)(k:Nat)(X:Cx)(T:String)(ty:PV->PH->Bool)(id:String)(g:PV->z_ PV->PH->Rs PV):Prop:=q0j X->MtR X id (rM C g)/\∀φ H h p x,K_ h->E_ p x->ty p h=true->tyV C.K T x H
variable{ai apos:Pos}{mo:Me}{name:Str}{ty:PV->PH->Bool}
theorem QH{o:x_}{id:String}{g:PV->z_ PV->PH->Rs PV}(pa:PlainAttrs T)(slot:Slot T name id)(lz:typeOf (.builtin id)=pure (.type "method_descriptor"))(hm:MtS C k X T ty id g)(ho:I_ o mo)(ha:SA C k X (e::es) ms)(az:y16 o name X.env (eval o X.env)=eval o X.env:=by rfl)(d7:((backTo ai (yz (e::es) X.env)).all (λx=>!x.1)&&(backToKw ai (keywordEach [] X.env)).all (λx=>x.1.isSome)
   && decide ((e::es).length+([]:z_ Keyword).length+(if([]:z_ Keyword).isEmpty then 0 else 1)<30))=true:=by rfl)(ba:(apos.endLine == ai.line)=true:=by rfl)(hs:yz (e::es) X.env=(false,q0d 0)::q0e 0:=by rfl)(bw:(backTo ai (q0e 0)).any (·.1)=false:=by rfl):
  I_ (.Call (.Attribute o name apos) (e::es) [] ai) (mMt ty g mo ms):=λc=>(Yy pa slot lz (hm c).1 (ho c) (ha c) az d7 ba hs bw).imp λσ H Q h=>by
 let⟨φ,δ,h,rh,re,p⟩:=h;refine⟨φ,δ,h,rh,re,(post.bind p).imp ?_⟩;rintro v H1 ⟨φ1,x,h1,p1,t1,af,ag,q1⟩;let⟨ht,q1⟩:=q1.ite;refine⟨by rw[c.K];show(hm c).2 φ1 H1 h1 x v af ag ht,φ1,δ,h1,af,U_ 0,(postA.bind q1).imp ?_⟩;rintro vs H2 ⟨φ2,xs,h2,p2,t2,ao,cf,q2⟩;show⟨φ2,h2,x,xs,ao,ag.mono p2 t2,cf,q2⟩
theorem MtR.imp{id:String}{r r':V->z_ V->Hp->VK->Prop}(h:MtR X id r)(i:∀x xs H Q,r' x xs H Q->r x xs H Q):MtR X id r':=λP1 s σ H x xs v us Q I rx rs q=>q0t x xs v us Q I rx rs (i x xs H Q q)
def isL(x:PV)(h:PH):Bool:=match x with
 |.ref n=>(iU h n).isSome
 |_=>false
theorem X9{x:V}(rh:K_ h)(rv:E_ p x)(e:isL p h=true):tyV C.K "list" x H:=by
 cases p with
 |ref n=>
  let⟨a,rfl,ha⟩:=rv;let⟨xs,hx⟩:=y1l.mp (show(iU h n).isSome=true from e)
  let⟨vs,hH,ra⟩:=q0h (sH hx);show .inl ⟨rfl,vs,SqL.of hH⟩
 |_=>cases e
def onL(f:z_ PV->z_ PV->A_ (PV×z_ PV)):PV->z_ PV->PH->Rs PV:=λx ps h=>match x with
 |.ref n=>match iU h n with
  |some xs=>match f xs ps with
   |some (r,ys)=>.ok r (h.set n (.lst ys))
   |none=>.bad
  |none=>.bad
 |_=>.bad
theorem X'{f:z_ PV->z_ PV->A_ (PV×z_ PV)}{x:V}{xs:z_ V}{Q:VK}(h:rM C (onL f) x xs H Q):∃φ l ps ys vs r zs,x=.ref l/\H l=a_ (.lst vs)/\G_ ys vs/\G_ ps xs/\f ys ps=a_ (r,zs)/\
  ∀(v:V)(ws:z_ V),E_ r v->G_ zs ws->Q v (Z_ l (.lst ws)):=by
 let⟨φ,h,p,ps,rh,rx,rs,po⟩:=h;unfold onL at po;cases p with
 |ref n=>
  let⟨a,rfl,ha⟩:=rx;dsimp only at po;cases e:iU h n with
  |none=>rw[e]at po;show po.elim
  |some ys=>
   rw[e]at po;dsimp only at po;let⟨vs,hH,ra⟩:=q0h (sH e);cases ef:f ys ps with
   |none=>rw[ef]at po;show po.elim
   |some rz=>rw[ef]at po;let⟨r,zs⟩:=rz;show⟨φ,a,ps,ys,vs,r,zs,rfl,hH,ra,rs,ef,λv ws rv cb=>po.lset rh ha hH cb rv⟩
 |_=>exact po.elim
def fT:z_ PV->z_ PV->A_ (PV×z_ PV):=λxs ps=>match ps with
 |[p]=>if xs.length<yo then a_ (.non,xs++[p]) else b_
 |_=>b_
theorem OF:MtR X "list.append" (rM C (onL fT)):=MtR.imp (show MtR X "list.append" Na from GG) λx xs H Q h=>by
 let⟨φ,l,ps,ys,vs,r,zs,rfl,hH,ra,rs,ef,q⟩:=X' h;unfold fT at ef;split at ef
 ·split at ef
  ·rename_i hz;cases ef
   let⟨v,rfl,rx⟩:=rs.one;show⟨l,vs,v,rfl,rfl,hH,by rw[<-ra.length];show hz,q .non _ rfl (ra.snoc rx)⟩
  ·cases ef
 ·cases ef
theorem vO:MtS C k X "list" isL "list.append" (onL fT):=λc=>⟨OF,λφ H h p x rh rv e=>X9 rh rv e⟩
def YU(K:yb):R2:=λx y H Q=>∃a b ys,x=.ref a/\y=.ref b/\q1c a []/\q1c b ys/\Q (.ref b) H
theorem Ub:q0C (y0Q .Add) (YU X.K):=by
 intro P1 s σ H x y v u Q I rx ry h;let⟨a,b,ys,rfl,rfl,ha,hb,q⟩:=h;cases rx
 cases ry
 let⟨its,r1,p1,_⟩:=I.tuple ha;let⟨gi,r2,p2,_⟩:=I.tuple hb;cases r1
 let⟨⟨cls,dd,data,sl⟩,ho,hc,n,hd⟩:=id p1;let⟨⟨j3,ip,data2,iw⟩,fe,cx,n2,hd2⟩:=id p2;simp only at hc hd cx hd2;subst hc hd cx hd2;show concat_meets ⟨_,ho,rfl⟩ ⟨_,fe,rfl⟩ noFill_tuple_add seq_tuple_add PySem.F.slot_tuple_add PySem.F.entry_tuple_add (PySem.F.args_tuple_add_2 _ _)
   (tuple_addW0 a b ([]:z_ r_).toArray gi.toArray n n2 dd ip sl iw (by simp)) ⟨ho,fe,⟨.ref b,H,I,rfl,q⟩⟩
def cE:PV->PV->PH->Rs PV:=λx y h=>match x,y with
 |.tup [],.tup ys=>.ok (.tup ys) h
 |x,y=>Qx x y h
theorem dO:q0o (y0Q .Add) cE:=λc=>((YO c).or (by have:=Ub (X:=X);rw[c.K]at this;show this)).imp λx y H Q h=>by
 let⟨φ,h,p,q,rh,rx,ry,po⟩:=h;unfold cE at po;split at po
 ·let⟨a,vs,rfl,sa,ra⟩:=rx;let⟨b,us,rfl,sb,rb⟩:=ry;have:vs=[]:=by cases vs <;> first|rfl|exact ra.elim
  subst this;show .inr ⟨a,b,us,rfl,rfl,sa,sb,R_ ⟨b,us,rfl,sb,rb⟩⟩
 ·show .inl ⟨φ,h,p,q,rh,rx,ry,po⟩
open PySem
@[irreducible]def Rs.W{α:Type}(r:Rs α)(Q:α->PH->Prop):Prop:=match r with
 |.ok a h=>Q a h
 |_=>False
structure FE where
 nx:Ev->PH->Prop
 rt:PV->PH->Prop
 bk:Ev->PH->Prop:=λ_ _=>False
 ct:Ev->PH->Prop:=λ_ _=>False
@[irreducible]def Fl.W(r:Fl)(E:FE):Prop:=match r with
 |.nx δ h=>E.nx δ h
 |.rt p h=>E.rt p h
 |.bk δ h=>E.bk δ h
 |.ct δ h=>E.ct δ h
 |_=>False
@[irreducible]def Lt(b:Ms)(E:FE)(δ:Ev)(h:PH):Prop:=(b δ h).W E
variable{ys:z_ PV}{z:Str}{h1:PH}{args:z_ PV}
section
unseal Rs.W Fl.W Lt
variable{α β:Type}{Q:α->PH->Prop}{E:FE}
@[simp]theorem Ij{a:α}:(Rs.ok a h).W Q=Q a h:=(rfl)
@[simp]theorem za2:(Fl.nx δ h).W E=E.nx δ h:=(rfl)
@[simp]theorem za3:(Fl.rt p h).W E=E.rt p h:=(rfl)
@[simp]theorem Ik{Q:β->PH->Prop}{r:Rs α}{f:α->PH->Rs β}:(r.bind f).W Q=r.W λa h=>(f a h).W Q:=by cases r <;> rfl
@[simp]theorem LW{r:Rs α}{f:α->PH->Fl}:(r.fl f).W E=r.W λa h=>(f a h).W E:=by cases r <;> rfl
theorem LX{Q':α->PH->Prop}{r:Rs α}(h:r.W Q)(i:∀a h,Q a h->Q' a h):r.W Q':=by cases r <;> first|exact i _ _ h|exact h
@[simp]theorem YV{c:Prop}[Decidable c]{x y:Rs α}:(if c then x else y).W Q=if c then x.W Q else y.W Q:=by split <;> rfl
@[simp]theorem zaX:(Rs.bad:Rs α).W Q=False:=(rfl)
@[simp]theorem zaF:Fl.bad.W E=False:=(rfl)
theorem pH{r:Rs α}(w:r.W Q):∃a h,r=.ok a h/\Q a h:=by
 cases r with
 |ok a h=>exact⟨a,h,rfl,w⟩
 |exc=>exact w.elim
 |bad=>exact w.elim
variable{a b:Ms}{mc:Me}{t ta tb:Ev->PH->Rs Bool}{g g':PV->PV->PH->Rs PV}
theorem aS:(aZ a b δ h).W E=(a δ h).W { E with nx:=Lt b E}:=by
 change(match a δ h with|.nx δ1 h1=>b δ1 h1|r=>r).W E=_
 cases a δ h <;> rfl
theorem now{b:Ms}(w:(b δ h).W E):Lt b E δ h:=w
@[simp]theorem zaY:(eY δ h).W E=E.nx δ h:=(rfl)
@[simp]theorem YW:(dI i m δ h).W E=(m δ h).W λp h=>E.nx (δ.set i (a_ p)) h:=by simp[dI]
@[simp]theorem zaZ{t:Mg}:(AA m t δ h).W E=(m δ h).W λp h=>∃δ',t p δ=a_ δ'/\E.nx δ' h:=by
 unfold AA;cases m δ h with
 |ok p h1=>
  change(match t p δ with|some δ'=>Fl.nx δ' h1|none=>.bad).W E=∃δ',t p δ=a_ δ'/\E.nx δ' h1
  cases t p δ <;> simp[Fl.W]
 |exc=>rfl
 |bad=>rfl
@[simp]theorem YX:(tM m δ h).W E=(m δ h).W λ_ h=>E.nx δ h:=by simp[tM]
@[simp]theorem VO:(cI m δ h).W E=(m δ h).W E.rt:=by simp[cI]
@[simp]theorem fG:(eJ t a b δ h).W E=(t δ h).W λc h=>if c=true then(a δ h).W E else(b δ h).W E:=by
 unfold eJ;rw[LW];congr;funext c h;cases c <;> simp
@[simp]theorem QI:mV i δ h=match Ib δ i with|some p=>.ok p h|none=>.bad:=(rfl)
@[simp]theorem VP:mC p δ h=.ok p h:=(rfl)
@[simp]theorem Uc:aE g ma mb δ h=(ma δ h).bind λx h1=>(mb δ h1).bind λy h2=>g x y h2:=(rfl)
@[simp]theorem zaG{g:PV->PH->Rs PV}:mUn g ma δ h=(ma δ h).bind g:=(rfl)
@[simp]theorem ZE:cJ m δ h=(m δ h).bind tru:=(rfl)
@[simp]theorem YY:vL t δ h=(t δ h).bind λb h1=>.ok (!b) h1:=(rfl)
@[simp]theorem YZ:Nk ta tb δ h=(ta δ h).bind λb h1=>if b=true then tb δ h1 else .ok false h1:=by unfold Nk;congr 1;funext b h1;cases b <;> simp
@[simp]theorem ZF:JQ ta tb δ h=(ta δ h).bind λb h1=>if b=true then .ok true h1 else tb δ h1:=by unfold JQ;congr 1;funext b h1;cases b <;> simp
@[simp]theorem zaH:mIf t ma mb δ h=(t δ h).bind λb h1=>if b=true then ma δ h1 else mb δ h1:=by unfold mIf;congr 1;funext b h1;cases b <;> simp
def bl2(x:PV)(f g:Rs PV):Rs PV:=match x with
 |.bl true=>f
 |.bl false=>g
 |_=>.bad
@[simp]theorem zaI{b:Bool}{f g:Rs PV}:bl2 (.bl b) f g=if b=true then f else g:=by cases b <;> simp[bl2]
@[simp]theorem ZG:U8 ma mb δ h=(ma δ h).bind λx h1=>bl2 x (.ok (.bl true) h1) (mb δ h1):=by unfold U8;first|rfl|(congr 1;funext x h1;cases x <;> first|rfl|(rename_i b;cases b <;> rfl))
@[simp]theorem ZH:dW ms δ h=(ms δ h).bind λxs h1=>if xs.length<=yo then .ok (.tup xs) h1 else .bad:=(rfl)
@[simp]theorem Ud:oH ms δ h=(ms δ h).bind λxs h1=>if xs.length<=yo then .ok (.ref h1.length) (h1++[.lst xs]) else .bad:=(rfl)
@[simp]theorem OG:zG δ h=.ok (.ref h.length) (h++[.dK []]):=(rfl)
@[simp]theorem Il:aL δ h=.ok [] h:=(rfl)
@[simp]theorem QJ:aB m ms δ h=(m δ h).bind λx h1=>(ms δ h1).bind λxs h2=>.ok (x::xs) h2:=(rfl)
@[simp]theorem Xa{g:z_ PV->PH->Rs PV}:mCB g ms δ h=(ms δ h).bind g:=(rfl)
@[simp]theorem Z0{f:Fn}:jB n f ms δ h=(ms δ h).bind λps h1=>if ps.length=n then f ps h1 else .bad:=(rfl)
@[simp]theorem Ue:rC δ h=.ok b_ h:=(rfl)
def QK(x:PV)(h:PH):Rs (A_ Int):=match x with
 |.int i=>.ok (a_ i) h
 |_=>.bad
@[simp]theorem LY{i:Int}:QK (.int i) h=.ok (a_ i) h:=(rfl)
@[simp]theorem Z1:mP m δ h=(m δ h).bind QK:=(rfl)
@[simp]theorem Xb:mSl m ml mh δ h=(m δ h).bind λx h1=>(ml δ h1).bind λl h2=>(mh δ h2).bind λu h3=>vSl x l u h3:=(rfl)
@[simp]theorem zaJ{g:PV->z_ PV->PH->Rs PV}:mMt ty g m ms δ h=(m δ h).bind λx h1=>if ty x h1=true then(ms δ h1).bind λps h2=>g x ps h2 else .bad:=(rfl)
@[simp]theorem ZI{g:PV->z_ PV->PH->Rs PV}:JT ty g m δ h=(m δ h).bind λx h1=>if ty x h1=true then g x [] h1 else .bad:=(rfl)
@[simp]theorem pI:yo=16777216:=by rw[zr]
theorem Ug{i j:Int}(c:(-18446744073709551616<i/\i<18446744073709551616)\/(-18446744073709551616<j/\j<18446744073709551616)):Ie (.int i) (.int j) h=.ok (.int (i*j)) h:=by
 change(if Jx i j then _ else _)=_
 show if_pos c
@[simp]theorem Z2{i j:Int}(c:(-18446744073709551616<i/\i<18446744073709551616)\/(-18446744073709551616<j/\j<18446744073709551616)):vInt Jx (λi j=>i*j) (.int i) (.int j) h=.ok (.int (i*j)) h:=Ug c
@[simp]theorem ZJ{i j:Int}(c:0<j/\j<1073741824):vInt PU (λi j=>i/j) (.int i) (.int j) h=.ok (.int (i/j)) h:=if_pos c
@[simp]theorem ZK{i j:Int}(c:0<j):vInt (λ_ j=>0<j) (λi j=>i%j) (.int i) (.int j) h=.ok (.int (i%j)) h:=if_pos c
@[simp]theorem ZL{i j:Int}(c:0<=j/\j<=1000000/\-18446744073709551616<i/\i<18446744073709551616):vInt O5 (λi j=>i ^ j.toNat) (.int i) (.int j) h=.ok (.int (i ^ j.toNat)) h:=by
 change(if O5 i j then _ else _)=_
 refine if_pos ⟨c.1,c.2.1,?_⟩;let⟨_,_,h1,h2⟩:=c;omega
@[simp]theorem ZM{i j:Int}:Ic (.int i) (.int j) h=.ok (.int (i-j)) h:=(rfl)
@[simp]theorem OH{i j:Int}:cE (.int i) (.int j) h=.ok (.int (i+j)) h:=(rfl)
@[simp]theorem Y'{y:Str}(c:x.length+y.length<=16777216):cE (.str x) (.str y) h=.ok (.str (x++y)) h:=if_pos c
@[simp]theorem Bx(c:xs.length+ys.length<=16777216):cE (.tup xs) (.tup ys) h=.ok (.tup (xs++ys)) h:=by
 cases xs with
 |nil=>rfl
 |cons x xs=>exact if_pos ⟨rfl,c⟩
@[simp]theorem Z3{f:Int->Int->Bool}{g:z_ Nat->z_ Nat->Bool}{i j:Int}:OB f g (.int i) (.int j) h=.ok (.bl (f i j)) h:=(rfl)
@[simp]theorem zaK{b:Bool}:tru (.bl b) h=.ok b h:=(rfl)
@[simp]theorem Z4:ofO (a_ p) h=.ok p h:=(rfl)
@[simp]theorem ZN{i:Int}:vIx (.tup xs) (.int i) h=ofO (atI xs i) h:=(rfl)
@[simp]theorem zaL{i:Int}:vIx (.fl xs) (.int i) h=ofO (atI xs i) h:=(rfl)
theorem mE{i:Int}(e:h[n]?=a_ (.lst xs)):vIx (.ref n) (.int i) h=ofO (atI xs i) h:=by simp[vIx,cB,e]
@[simp]theorem Uh{i:Int}(c:z.length<=16777216):vIx (.str z) (.int i) h=ofO ((atI z.cps.toList i).map λc=>.str ⟨#[c]⟩) h:=if_pos c
@[simp]theorem Z5:pG [.tup xs] h=.ok (.int xs.length) h:=(rfl)
@[simp]theorem ZO:pG [.fl xs] h=.ok (.int xs.length) h:=(rfl)
@[simp]theorem Z6(c:x.length<=16777216):pG [.str x] h=.ok (.int x.length) h:=if_pos c
theorem sJ(e:h[n]?=a_ (.lst xs)):pG [.ref n] h=.ok (.int xs.length) h:=by simp[pG,cB,e]
@[simp]theorem Z7{i:Str}:yI [.str i,.ty c] h=if c∈known then .ok (.bl (uU "str" c)) h else .bad:=(rfl)
@[simp]theorem QL{i:z_ PV}:yI [.tup i,.ty c] h=if c∈known then .ok (.bl (uU "tuple" c)) h else .bad:=(rfl)
theorem JU(e:h[n]?=a_ (.lst xs)):yI [.ref n,.ty c] h=if c∈known then .ok (.bl (uU "list" c)) h else .bad:=by simp[yI,tyN,e]
theorem AB(e:h[n]?=a_ (.lst xs)):isL (.ref n) h=true:=by simp[isL,iU,e]
theorem qC(e:h[n]?=a_ (.lst xs))(c:xs.length<16777216):onL fT (.ref n) [p] h=.ok .non (h.set n (.lst (xs++[p]))):=by simp[onL,iU,e,fT,c]
theorem Ui{α:Type}{xs:z_ α}{i:Int}(h0:0<=i)(h1:i<xs.length):atI xs i=xs[i.toNat]?:=by unfold atI ixN;rw[if_pos h0,if_pos h1];rfl
theorem Im{g:PH->Bool}{tg:Mg}{body:Ms}{E:FE}(I:Nat->Ev->PH->Prop):∀(xs:z_ PV)(k:Nat)(δ:Ev)(h:PH),I k δ h->
  (∀i x δ h,k<=i->xs[i-k]?=a_ x->I i δ h->g h=true/\∃δ1,tg x δ=a_ δ1/\(body δ1 h).W { nx:=I (i+1),ct:=I (i+1),rt:=E.rt,bk:=E.nx})->
  (∀δ h,I (k+xs.length) δ h->g h=true/\E.nx δ h)->(qA g tg body xs δ h).W E
 |[],k,δ,h,i0,_,fin=>by let⟨h1,h2⟩:=fin δ h i0;simp[qA,h1,h2]
 |x::xs,k,δ,h,i0,step,fin=>by
  let⟨h1,δ1,h2,h3⟩:=step k x δ h (yg _) (by simp) i0;let go:∀δ2 h2,I (k+1) δ2 h2->(qA g tg body xs δ2 h2).W E:=λδ2 h2 i2=>
   Im I xs (k+1) δ2 h2 i2 (λi y δ h hk hy=>step i y δ h ⋯ (by
    have:i-k=(i-(k+1))+1:=⋯;rw[this,y0X];show hy)) (λδ h hi=>fin δ h (by
    let e:k+(x::xs).length=k+1+xs.length:=by simp;omega
    rw[e];show hi))
  unfold qA;rw[if_pos h1,h2]
  change Fl.W (match body δ1 h with|.nx δ2 h2=>qA g tg body xs δ2 h2|.ct δ2 h2=>qA g tg body xs δ2 h2|.bk δ2 h2=>.nx δ2 h2|r=>r) E
  cases e:body δ1 h with
  |nx δ2 h2=>rw[e]at h3;show go δ2 h2 h3
  |ct δ2 h2=>rw[e]at h3;show go δ2 h2 h3
  |bk δ2 h2=>rw[e]at h3;show h3
  |rt p h2=>rw[e]at h3;show h3
  |exc=>rw[e]at h3;show h3
  |bad=>rw[e]at h3;show h3
theorem QM{body:Ms}{j:Int}(I:Nat->Ev->PH->Prop)(e:ms δ h=.ok [.int j] h)(hj:-4611686018427387904<=j/\j<4611686018427387904)(h0:I 0 δ h)(step:∀(q:Nat) δ h,(q:Int)<j->I q δ h->(body (δ.set i (d_ q)) h).W { nx:=I (q+1),ct:=I (q+1),rt:=E.rt,bk:=E.nx})(fin:∀δ h,I j.toNat δ h->E.nx δ h):(rD (vN ms) (gN i) body δ h).W E:=by
 unfold rD vN;rw[e];let l9:-(2 ^ 62)<=j/\j<2 ^ 62:=hj;simp only[Rs.bind_ok,Nl,if_pos l9,Rs.fl_ok];refine Im I _ 0 δ h h0 (λq x δ h _ hx hi=>?_) (λδ h hi=>⟨rfl,fin δ h (by rw[nX,Nat.zero_add]at hi;show hi)⟩);let hq:q<j.toNat:=by have:=(xt.mp hx).1;rw[nX]at this;omega
 rw[Nat.sub_zero,EA _ _ _ hq]at hx;cases hx
 refine⟨rfl,_,rfl,?_⟩;rw[Int.zero_add];show step q δ h ⋯ hi
theorem Xc{tg:Mg}{body:Ms}(I:Nat->Ev->PH->Prop)(e:m δ h=.ok (.tup xs) h\/m δ h=.ok (.fl xs) h)(h0:I 0 δ h)(step:∀(q:Nat) x δ h,xs[q]?=a_ x->I q δ h->∃δ1,tg x δ=a_ δ1/\(body δ1 h).W { nx:=I (q+1),ct:=I (q+1),rt:=E.rt,bk:=E.nx})(fin:∀δ h,I xs.length δ h->E.nx δ h):(rD (dM m) tg body δ h).W E:=by
 let go:(qA (λ_=>true) tg body xs δ h).W E:=Im I _ 0 δ h h0 (λq x δ h _ hx hi=>⟨rfl,step q x δ h (k_ hx) hi⟩) (λδ h hi=>⟨rfl,fin δ h (k_ hi)⟩);unfold rD dM;rcases e with e|e <;> rw[e] <;> exact go
theorem By{tg:Mg}{body:Ms}(I:Nat->Ev->PH->Prop)(e:m δ h=.ok (.ref n) h1)(hn:h1[n]?=a_ (.lst xs))(h0:I 0 δ h1)(keep:∀q δ h,q<=xs.length->I q δ h->h[n]?=a_ (.lst xs))(step:∀(q:Nat) x δ h,xs[q]?=a_ x->I q δ h->∃δ1,tg x δ=a_ δ1/\(body δ1 h).W { nx:=I (q+1),ct:=I (q+1),rt:=E.rt,bk:=E.nx})(fin:∀δ h,I xs.length δ h->E.nx δ h):(rD (dM m) tg body δ h).W E:=by
 let hk:∀{h:PH},h[n]?=a_ (.lst xs)->JS n xs h=true:=λ{h} e=>by
  let e3:cB h n=a_ xs:=by unfold cB;rw[e]
  unfold JS;rw[e3];show PV.beqs_self xs
 unfold rD dM;rw[e];let e2:ofSeq (.ref n) h1=.ok ⟨xs,JS n xs⟩ h1:=by
  let e3:cB h1 n=a_ xs:=by unfold cB;rw[hn]
  unfold ofSeq;simp only[e3]
 rw[Rs.bind_ok,e2,Rs.fl_ok];refine Im I _ 0 δ h1 h0 (λq x δ h _ hx hi=>?_) (λδ h hi=>?_)
 ·let f6:xs[q]?=a_ x:=by simpa using hx
  have:=(xt.mp f6).1;show⟨hk (keep q δ h ⋯ hi),step q x δ h f6 hi⟩
 ·let aw:I xs.length δ h:=by simpa using hi
  show⟨hk (keep _ δ h (yg _) aw),fin δ h aw⟩
theorem eD{N:Nat}{body:Ms}{Q:PV->PH->Prop}(w:(body (args.map a_++y2d (N-args.length) b_) h).W { nx:=λ_ h=>Q .non h,rt:=Q}):(mFn N body args h).W Q:=by
 unfold mFn;cases e:body (args.map a_++y2d (N-args.length) b_) h with
 |nx δ h'=>rw[e]at w;show w
 |rt p h'=>rw[e]at w;show w
 |_=>rw[e]at w;show w.elim
@[simp]theorem za0:gN i p δ=a_ (δ.set i (a_ p)):=(rfl)
@[simp]theorem zaM{u:Mgs}{ps:z_ PV}:gTp n u (.tup ps) δ=if ps.length=n then u ps δ else b_:=(rfl)
@[simp]theorem zaN{t:Mg}{u:Mgs}{r:z_ PV}:gCn t u (p::r) δ=(t p δ).bind (u r):=(rfl)
@[simp]theorem zaO:gNl [] δ=a_ δ:=(rfl)
end
def Ext(h h':PH):Prop:=∀(n:Nat)(o:MO),h[n]?=a_ o->h'[n]?=a_ o
theorem Ext.refl(h:PH):S1 h:=λ_ _ e=>e
variable{h2:PH}
theorem Ext.trans(a:S1 h1)(b:Ext h1 h2):S1 h2:=λn o e=>b n o (a n o e)
theorem Ext.app(h g:PH):S1 (h++g):=λn o e=>by rw[zw (xt.mp e).1];show e
theorem Ext.len{h':PH}(e:S1 h'):h.length<=h'.length:=by
 rcases Nat.lt_or_ge h'.length h.length with z|z
 ·have:h[h'.length]?=a_ h[h'.length]:=by simp[z]
  have:=(xt.mp (e _ _ this)).1;omega
 ·show z
theorem aU:(h++[o])[h.length]?=a_ o:=by simp
variable{o':MO}
theorem eM(e:h[n]?=a_ o):(h.set n o')[n]?=a_ o':=y0g (xt.mp e).1
theorem bQ{m:Nat}(e:h[m]?=a_ o)(d:n≠m):(h.set n o')[m]?=a_ o:=by rw[y0i d];show e
def PV.pl:Nat->PV->Bool
 |_,.non=>true
 |_,.int _=>true
 |_,.str _=>true
 |n+1,.tup xs=>xs.all (PV.pl n)
 |_,_=>false
theorem Nr{x:PV}{d:D}{ds:z_ D}(h1:x.d=a_ d)(h2:PV.ds xs=a_ ds):PV.ds (x::xs)=a_ (d::ds):=by simp[PV.ds,h1,h2]
theorem Z8{ds:z_ D}(h:PV.ds xs=a_ ds):(PV.tup xs).d=a_ (.tup ds):=by simp[PV.d,h]
theorem dQ{d:D}(h:(PV.tup xs).d=a_ d):∃ds,PV.ds xs=a_ ds/\d=.tup ds:=by
 unfold PV.d at h;split at h
 ·rename_i ds e;cases h;show⟨ds,e,rfl⟩
 ·cases h
theorem iE{x:PV}{ds:z_ D}(h:PV.ds (x::xs)=a_ ds):∃d r,x.d=a_ d/\PV.ds xs=a_ r/\ds=d::r:=by
 unfold PV.ds at h;split at h
 ·rename_i d r e1 e2;cases h;show⟨d,r,e1,e2,rfl⟩
 ·cases h
theorem tN:∀(n:Nat)(x:PV),x.pl n=true->∃d,x.d=a_ d/\d.depth<=n:=by
 intro n
 induction n with
 |zero=>intro x h;cases x <;> first|exact⟨_,rfl,yg _⟩|(simp[PV.pl]at h)
 |succ n ih=>
  intro x h;cases x with
  |tup xs=>
   let h:xs.all (PV.pl n)=true:=h;let many:∀(xs:z_ PV),xs.all (PV.pl n)=true->∃ds,PV.ds xs=a_ ds/\X_ 0<=n:=by
    intro xs
    induction xs with
    |nil=>intro _;show⟨[],rfl,y9 _⟩
    |cons x xs ihx=>
     intro h;simp only[y1r,zg]at h;let⟨d,h1,h2⟩:=ih x h.1;let⟨ds,h3,h4⟩:=ihx h.2;refine⟨d::ds,Nr h1 h3,?_⟩
     change max d.depth (X_ 0)<=n
     omega
   let⟨ds,h1,h2⟩:=many xs h;refine⟨.tup ds,Z8 h1,?_⟩
   change X_ 0+1<=n+1
   omega
  |_=>first|exact⟨_,rfl,y9 _⟩|(simp[PV.pl]at h)
theorem JV:∀(n:Nat)(x y:PV)(d e:D),x.pl n=true->y.pl n=true->x.d=a_ d->y.d=a_ e->eqD d e=decide (x=y):=by
 intro n
 induction n with
 |zero=>
  intro x y d e hx hy h1 h2;cases x <;> first|(simp[PV.pl]at hx;done)|skip
  all_goals cases h1
  all_goals cases y <;> first|(simp[PV.pl]at hy;done)|skip
  all_goals cases h2
  all_goals simp only[eqD]
  all_goals rw[y1G]
  all_goals simp
 |succ n ih=>
  intro x y d e hx hy h1 h2;let lists:∀(xs ys:z_ PV)(ds es:z_ D),xs.all (PV.pl n)=true->ys.all (PV.pl n)=true->PV.ds xs=a_ ds->PV.ds ys=a_ es->pF ds es=decide (xs=ys):=by
   intro xs
   induction xs with
   |nil=>
    intro ys ds es _ _ h1 h2;cases h1
    cases ys with
    |nil=>cases h2;rfl
    |cons y ys=>let⟨d,r,_,_,rfl⟩:=iE h2;simp[pF]
   |cons x xs ihx=>
    intro ys ds es hx hy h1 h2;let⟨d,r,g1,g2,rfl⟩:=iE h1;simp only[y1r,zg]at hx;cases ys with
    |nil=>cases h2;simp[pF]
    |cons y ys=>let⟨e,q,g3,g4,rfl⟩:=iE h2;simp only[y1r,zg]at hy;simp only[pF,ih x y d e hx.1 hy.1 g1 g3,ihx ys r q hx.2 hy.2 g2 g4];rw[y1G];simp
  cases x with
  |tup xs=>
   let⟨ds,g1,rfl⟩:=dQ h1;cases y with
   |tup ys=>let⟨es,g2,rfl⟩:=dQ h2;simp only[eqD,lists xs ys ds es hx hy g1 g2];rw[y1G];simp
   |non=>cases h2;simp[eqD]
   |int j=>cases h2;simp[eqD]
   |str j=>cases h2;simp[eqD]
   |_=>simp[PV.pl]at hy
  |non=>
   cases h1
   cases y with
   |tup ys=>let⟨es,g2,rfl⟩:=dQ h2;simp[eqD]
   |non=>cases h2;simp[eqD]
   |int j=>cases h2;simp[eqD]
   |str j=>cases h2;simp[eqD]
   |_=>simp[PV.pl]at hy
  |int i=>
   cases h1
   cases y with
   |tup ys=>let⟨es,g2,rfl⟩:=dQ h2;simp[eqD]
   |non=>cases h2;simp[eqD]
   |int j=>cases h2;simp only[eqD];rw[y1G];simp
   |str j=>cases h2;simp[eqD]
   |_=>simp[PV.pl]at hy
  |str i=>
   cases h1
   cases y with
   |tup ys=>let⟨es,g2,rfl⟩:=dQ h2;simp[eqD]
   |non=>cases h2;simp[eqD]
   |int j=>cases h2;simp[eqD]
   |str j=>cases h2;simp only[eqD];rw[y1G];simp
   |_=>simp[PV.pl]at hy
  |_=>simp[PV.pl]at hx
theorem Nt{x:PV}{y:PV}(hx:x.pl 40=true)(hy:y.pl 40=true):Ig x y h=a_ (decide (x=y)):=by let⟨d,h1,h2⟩:=tN 40 x hx;let⟨e,h3,h4⟩:=tN 40 y hy;unfold Ig;rw[h1,h3];simp only[h2,if_true,JV 40 x y d e hx hy h1 h3]
theorem zH{x:PV}{y:PV}(hx:x.pl 40=true)(hy:y.pl 40=true):vEq x y h=.ok (.bl (decide (x=y))) h:=by unfold vEq;rw[Nt hx hy];rfl
theorem QN{x:PV}{y:PV}(hx:x.pl 40=true)(hy:y.pl 40=true):vNe x y h=.ok (.bl (!decide (x=y))) h:=by unfold vNe;rw[Nt hx hy];rfl
@[simp]theorem ZP{i j:Int}:vEq (.int i) (.int j) h=.ok (.bl (decide (i=j))) h:=by rw[zH rfl rfl];congr 2;simp
@[simp]theorem ZQ{i j:Int}:vNe (.int i) (.int j) h=.ok (.bl (!decide (i=j))) h:=by rw[QN rfl rfl];congr 3;simp
@[simp]theorem ZR{i j:Str}:vEq (.str i) (.str j) h=.ok (.bl (decide (i=j))) h:=by rw[zH rfl rfl];congr 2;simp
theorem EB{x:PV}(hx:x.pl 39=true)(hy:ys.all (PV.pl 39)=true):Ew x ys=a_ (decide (x∈ys)):=by
 let key:∀ys:z_ PV,ys.all (PV.pl 39)=true->∃ds,PV.ds ys=a_ ds/\X_ 0<=39/\∀d,x.d=a_ d->(ds.any λe=>eqD e d)=decide (x∈ys):=by
  intro ys
  induction ys with
  |nil=>intro _;show⟨[],rfl,y9 _,λ_ _=>by simp⟩
  |cons y ys ih=>
   intro h;simp only[y1r,zg]at h;let⟨e,h1,h2⟩:=tN 39 y h.1;let⟨ds,h3,h4,h5⟩:=ih h.2;refine⟨e::ds,Nr h1 h3,?_,λd hd=>?_⟩
   ·change max e.depth (X_ 0)<=39
    omega
   ·rw[y18,h5 d hd,JV 39 y x e d h.1 hx h1 hd,y1G];simp only[Bool.or_eq_true,decide_eq_true_eq,yr];constructor
    ·rintro(h|h)
     ·show .inl h.symm
     ·show .inr h
    ·rintro(h|h)
     ·show .inl h.symm
     ·show .inr h
 let⟨d,h1,h2⟩:=tN 39 x hx;let⟨ds,h3,h4,h5⟩:=key ys hy;unfold Ew;rw[h1,h3];simp only[show X_ 0<=40 by omega,if_true,h5 d h1]
theorem Uj{x:PV}(hx:x.pl 39=true)(hy:ys.all (PV.pl 39)=true):vIn x (.tup ys) h=.ok (.bl (decide (x∈ys))) h:=by unfold vIn JP;dsimp only;rw[EB hx hy];rfl
theorem LZ{x:PV}(hx:x.pl 39=true)(hy:ys.all (PV.pl 39)=true):Ex x (.tup ys) h=.ok (.bl (!decide (x∈ys))) h:=by unfold Ex JP;dsimp only;rw[EB hx hy];rfl
theorem Uk{x:PV}(e:h[n]?=a_ (.lst ys))(hx:x.pl 39=true)(hy:ys.all (PV.pl 39)=true):vIn x (.ref n) h=.ok (.bl (decide (x∈ys))) h:=by
 let e3:cB h n=a_ ys:=by unfold cB;rw[e]
 unfold vIn JP;simp only[e3,EB hx hy];rfl
theorem JW{m:Nat}(e1:h[n]?=a_ (.lst xs))(e2:h[m]?=a_ (.lst ys))(hx:xs.all (PV.pl 39)=true)(hy:ys.all (PV.pl 39)=true):Ig (.ref n) (.ref m) h=a_ (decide (xs=ys)):=by
 let e3:sI (.ref n) h=a_ xs:=by unfold sI cB;simp only[e1]
 let e4:sI (.ref m) h=a_ ys:=by unfold sI cB;simp only[e2]
 let f6:(PV.tup xs).pl 40=true:=hx;let gp:(PV.tup ys).pl 40=true:=hy;let⟨d,h1,h2⟩:=tN 40 _ f6;let⟨e,h3,h4⟩:=tN 40 _ gp;let⟨ds,g1,rfl⟩:=dQ h1;let⟨es,g2,rfl⟩:=dQ h3;let h5:=JV 40 _ _ _ _ f6 gp h1 h3;let dg:X_ 0+1<=40:=h2;let h5':pF ds es=decide (xs=ys):=by have:pF ds es=decide (PV.tup xs=PV.tup ys):=h5;rw[this,y1G];simp
 unfold Ig;let n1:(PV.ref n).d=b_:=rfl;rw[n1];simp only[e3,e4,g1,g2,show X_ 0<=40 by omega,if_true,h5']
theorem Ul{m:Nat}(e1:h[n]?=a_ (.lst xs))(e2:h[m]?=a_ (.lst ys))(hx:xs.all (PV.pl 39)=true)(hy:ys.all (PV.pl 39)=true):vEq (.ref n) (.ref m) h=.ok (.bl (decide (xs=ys))) h:=by unfold vEq;rw[JW e1 e2 hx hy];rfl
theorem Um{m:Nat}(e1:h[n]?=a_ (.lst xs))(e2:h[m]?=a_ (.lst ys))(hx:xs.all (PV.pl 39)=true)(hy:ys.all (PV.pl 39)=true):vNe (.ref n) (.ref m) h=.ok (.bl (!decide (xs=ys))) h:=by unfold vNe;rw[JW e1 e2 hx hy];rfl
section
variable{α:Type}{a b c d e f g:α}{r:z_ α}
theorem DF{xs:z_ α}{v:α}(i:Nat)(h:xs[i]?=a_ v):atI xs (i:Int)=a_ v:=lY h
@[simp]theorem za4:atI (a::r) 0=a_ a:=DF 0 rfl
@[simp]theorem za5:atI (a::b::r) 1=a_ b:=DF 1 rfl
@[simp]theorem za6:atI (a::b::c::r) 2=a_ c:=DF 2 rfl
@[simp]theorem za7:atI (a::b::c::d::e::r) 4=a_ e:=DF 4 rfl
theorem Uo{xs:z_ α}{i:Int}(h:xs≠[]):∃v,atI xs (i%(xs.length:Int))=a_ v/\v∈xs:=by let h0:0<xs.length:=List.length_pos_iff.mpr h;let⟨v,h1,h2⟩:=WO (xs:=xs) (i:=i%(xs.length:Int)) (Int.emod_nonneg _ ⋯) (Int.emod_lt_of_pos _ ⋯);show⟨v,h1,zi h2⟩
end
open PySem.SeqAt
open PySem.AutoSeq1 (wpAny_loadPart')
open PySem.MeetsSeq PySem.MeetsSeq2 PySem.MeetsSeq3
def QO(A:u_)(s:s_)(v u:r_)(b:Bool):Prop:=∀(prog:w_)(w:w4)(E:f_ 0)(Q:f_ 0),Q (.bool b) s->C_ (richCompare .Lt v u) Q E s
def Z9(A:u_)(s:s_)(v u:r_)(d e:D):Prop:=EqAt A s v u (eqD d e)/\(eqD d e=false->∀b,ltD d e=a_ b->QO A s v u b)
abbrev Hb(A:u_)(s:s_):z_ r_->z_ r_->z_ D->z_ D->Prop:=λvs us ds es=>vs.length=ds.length/\us.length=es.length/\∀(j:Nat) v u d e,vs[j]?=a_ v->us[j]?=a_ u->ds[j]?=a_ d->es[j]?=a_ e->Z9 A s v u d e
theorem Hb.tail{v:r_}{vs:z_ r_}{d e:D}{ds es:z_ D}(h:Hb A s (v::vs) (u::us) (d::ds) (e::es)):Z9 A s v u d e/\Hb A s vs us ds es:=⟨h.2.2 0 v u d e rfl rfl rfl rfl,by have:=h.1;simpa using this,by have:=h.2.1;simpa using this,λj v u d e h1 h2 h3 h4=>h.2.2 (j+1) v u d e (k_ h1) (k_ h2) (k_ h3) (k_ h4)⟩
theorem AC(l b:td)(items bf:q0l 0)(n n2:Nat)(dd ip:A_ td)(sl iw:m_ 0)(ds es:z_ D)(c:Bool)(hc:zD ds es=a_ c):
  Meets (Builtin.«tuple.__lt__» ⟨[.ref l,.ref b],[]⟩)
   (λA R s=>s.heap.get? l=a_ {cls:=.type "tuple",dict:=dd,data:=.seq items n,slots:=sl}/\P2 0=a_ {cls:=.type "tuple",dict:=ip,data:=.seq bf n2,slots:=iw}/\
    Hb A.in1 s items.toList bf.toList ds es/\R (.ok (.ret (.bool c))) s):=
 .of_wp λprog w A R s h=>by
  let⟨hp,g,d,tk,os⟩:=s;let⟨hl,hb,hit,h⟩:=h;let f2:=AutoSeq1.sub_tuple_tuple;let z1:items.size=ds.length:=by rw[<-hit.1];simp
  let z2:bf.size=es.length:=by rw[<-hit.2.1];simp
  wp_walk using wpAny_loadPart' hl,wpAny_loadPart' hb,y2A _ (λrest b s'=>b.1=b_/\s'=⟨hp,g,d,tk,os⟩/\∃(vs ws:z_ r_)(jk gz:z_ D),rest=vs.zip ws/\
   Hb A.in1 ⟨hp,g,d,tk,os⟩ vs ws jk gz/\jk.length+bf.size=gz.length+items.size/\zD jk gz=a_ c) _
  case turn=>
   rintro⟨y,x⟩ rest b s' ⟨hb',rfl,vs,ws,jk,gz,hz,hvi,hlen,hR⟩;cases vs with
   |nil=>rw[List.zip_nil_left]at hz;cases hz
   |cons v vs=>
    cases ws with
    |nil=>rw[List.zip_nil_right]at hz;cases hz
    |cons u ws=>
     rw[y2h]at hz;injection hz with hyx hrest;injection hyx with hy hx;subst hy hx;cases jk with
     |nil=>have:=hvi.1;simp at this
     |cons a jk=>
      cases gz with
      |nil=>have:=hvi.2.1;simp at this
      |cons e gz=>
       let⟨⟨h1,h2⟩,ht⟩:=Hb.tail hvi;simp only[zt]at hlen;simp only[zD]at hR;refine xr (h1 prog w _ _ ?_);cases q:eqD a e with
       |true=>
        rw[q,q0k 0]at hR
        wp_walk
        show⟨rfl,rfl,_,_,_,_,hrest,ht,⋯,hR⟩
       |false=>
        rw[q,if_neg yl]at hR;let hri:=h2 q c hR prog w
        wp_walk using hri
        show⟨_,rfl,k_ h⟩
  case fin=>
   rintro⟨b1,b2⟩ s' ⟨hb',rfl,vs,ws,jk,gz,hz,hvi,hlen,hR⟩;simp only at hb';subst hb';let hv:c=decide (items.size<bf.size):=by
    cases jk with
    |nil=>
     cases gz with
     |nil=>
      simp only[y2j]at hlen;simp only[zD]at hR;cases hR
      show(decide_eq_false ⋯).symm
     |cons e gz=>
      simp only[y2j,zt]at hlen;simp only[zD]at hR;cases hR
      show(decide_eq_true ⋯).symm
    |cons a jk=>
     cases gz with
     |nil=>
      simp only[y2j,zt]at hlen;simp only[zD]at hR;cases hR
      show(decide_eq_false ⋯).symm
     |cons e gz=>
      exfalso;cases vs with
      |nil=>have:=hvi.1;simp at this
      |cons v vs=>
       cases ws with
       |nil=>have:=hvi.2.1;simp at this
       |cons u ws=>rw[y2h]at hz;cases hz
   rw[hv]at h
   wp_walk
   show⟨_,rfl,by simpa[Builtin.Tuple.tupleCompareSizes] using h⟩
  case h=>exact⟨rfl,rfl,items.toList,bf.toList,ds,es,rfl,hit,⋯,hc⟩
theorem zaP(I:Q_ s):∀(n:Nat)(d e:D)(A:u_)(x y:V)(v u:r_)(b:Bool),d.depth<=n->A.units+n<cLine->Rep X.K H d x->Rep X.K H e y->q1e v->RelV y u->ltD d e=a_ b->QO A s v u b:=by
 intro n
 induction n with
 |zero=>
  intro d e A x y v u b hd hu hx hy rx ry hb;cases d with
  |tup ds=>exact absurd hd (by change ¬ X_ 0+1<=0;omega)
  |int i=>
   cases e with
   |int j=>
    cases hx;cases hy;let⟨t,rfl⟩:=rx;let⟨t',rfl⟩:=ry;simp only[ltD]at hb;cases hb
    show λprog w E Q q=>(PyProof.Rows.lt_int q:C_ (zc .Lt _ _) Q E s)
   |_=>simp[ltD]at hb
  |str i=>
   cases e with
   |str j=>
    cases hx;cases hy;let⟨t,rfl⟩:=rx;let⟨t',rfl⟩:=ry;simp only[ltD]at hb;cases hb
    show λprog w E Q q=>(PyProof.Rows.lt_str q:C_ (zc .Lt _ _) Q E s)
   |_=>simp[ltD]at hb
  |_=>cases e <;> simp[ltD]at hb
 |succ n ih=>
  intro d e A x y v u b hd hu hx hy rx ry hb;by_cases h0:d.depth<=n
  ·show ih d e A x y v u b h0 ⋯ hx hy rx ry hb
  ·cases d with
   |tup ds=>
    cases e with
    |tup es=>
     let jz:X_ 0<=n:=by have:X_ 0+1<=n+1:=hd;omega
     let⟨a,vs,rfl,q,r⟩:=hx;cases rx
     let⟨its,rv,p,_⟩:=I.tuple q;let⟨a',fc,rfl,q',r'⟩:=hy;cases ry
     let⟨its',bt,p',_⟩:=I.tuple q';let hb':zD ds es=a_ b:=by simpa[ltD] using hb
     let⟨⟨cls,dd,data,sl⟩,ho,hc,m,gf⟩:=id p;let⟨⟨j3,ip,data2,iw⟩,fe,cx,m2,hd2⟩:=id p';simp only at hc gf cx hd2;subst hc gf cx hd2;intro prog w E Q hq;refine richCompare_meets_room (op:=.Lt) ⟨_,ho,rfl⟩ ⟨_,fe,rfl⟩ PySem.F.slot_tuple_lt PySem.F.entry_tuple_lt (PySem.F.args_tuple_lt_2 _ _) (AC a a' its.toArray its'.toArray m m2 dd ip sl iw ds es b hb')
      ⟨ho,fe,⟨?_,?_,?_⟩,show Value.bool b≠Value.notImplemented/\Q (.bool b) s from⟨(λx=>nomatch x),hq⟩⟩ ⋯
     ·let l1:=r.length;let l3:=rv.length
      change its.length=ds.length
      omega
     ·let l1:=r'.length;let l3:=bt.length
      change its'.length=es.length
      omega
     ·intro j v u d e h1 h2 h3 h4;let⟨xv,j8,ic⟩:=r.at h3;let⟨yv,kn,jj⟩:=r'.at h4;let⟨xu,i7,cz⟩:=rv.get j8;let⟨yu,jd,bq⟩:=bt.get kn;let e1:v=xu:=by have:its[j]?=a_ v:=h1;rw[i7]at this;show(yx this).symm
      let e2:u=yu:=by have:its'[j]?=a_ u:=h2;rw[jd]at this;show(yx this).symm
      subst e1 e2;let qz:=D.depths_le h3;refine⟨Qk I (n:=n) ⋯ ?_ ic jj cz bq,λ_ b hb=>ih d e _ xv yv v u b ⋯ ?_ ic jj cz bq hb⟩
      all_goals (show A.units+1+n<cLine;omega)
    |_=>simp[ltD]at hb
   |_=>exact absurd (y9 n) h0
variable{C:MC}{k:Nat}{X:Cx}
def Z'(x y:PV):A_ Bool:=match x.d,y.d with
 |some d,a_ e=>if d.depth<=40 then ltD d e else b_
 |_,_=>b_
def CL:PV->PV->PH->Rs PV:=λx y h=>match x,y with
 |.tup xs,.tup ys=>ofB (Z' (.tup xs) (.tup ys)) h
 |x,y=>vLt x y h
theorem Xd(hu:X.A.units+64<cLine)(K:yb)(hK:X.K=K):q0C (zc .Lt) (λx y H Q=>∃d e b,Rep K H d x/\Rep K H e y/\d.depth<=40/\ltD d e=a_ b/\Q (.bl b) H):=by subst hK;intro P1 s σ H x y v u Q I rx ry h;let⟨d,e,b,hx,hy,hd,hb,q⟩:=h;show zaP I 40 d e X.A x y v u b hd ⋯ hx hy rx ry hb X.prog X.w X.xe _ ⟨.bl _,H,I,rfl,q⟩
theorem M0:q0o (zc .Lt) CL:=λc=>((Xd c.hu64 C.K c.K).or (zay c)).imp λx y H Q h=>by
 let⟨φ,h,p,q,rh,rx,ry,po⟩:=h;unfold CL at po;split at po
 ·let⟨b,e,po⟩:=po.ofB;unfold Z' at e;split at e
  ·rename_i d e' h1 h2;split at e
   ·rename_i hd;show .inl ⟨d,e',b,rx.rep h1,ry.rep h2,hd,e,R_ rfl⟩
   ·cases e
  ·cases e
 ·show .inr ⟨φ,h,p,q,rh,rx,ry,po⟩
@[simp]theorem Ya{i j:Int}:CL (.int i) (.int j) h=.ok (.bl (decide (i<j))) h:=(rfl)
def ltL(f:PV->PV->A_ Bool):z_ PV->z_ PV->A_ Bool
 |[],[]=>a_ false
 |[],_::_=>a_ true
 |_::_,[]=>a_ false
 |x::xs,y::ys=>if x=y then ltL f xs ys else f x y
def ltP:Nat->PV->PV->A_ Bool
 |_,.int a,.int b=>a_ (decide (a<b))
 |_,.str a,.str b=>a_ (decide (a.cps.toList<b.cps.toList))
 |n+1,.tup xs,.tup ys=>ltL (ltP n) xs ys
 |_,_,_=>b_
theorem VQ:∀(n:Nat)(x y:PV)(d e:D),x.pl n=true->y.pl n=true->x.d=a_ d->y.d=a_ e->ltD d e=ltP n x y:=by
 intro n
 induction n with
 |zero=>
  intro x y d e hx hy h1 h2;cases x <;> first|(simp[PV.pl]at hx;done)|skip
  all_goals cases h1
  all_goals cases y <;> first|(simp[PV.pl]at hy;done)|skip
  all_goals cases h2
  all_goals simp[ltD,ltP]
 |succ n ih=>
  intro x y d e hx hy h1 h2;let lists:∀(xs ys:z_ PV)(ds es:z_ D),xs.all (PV.pl n)=true->ys.all (PV.pl n)=true->PV.ds xs=a_ ds->PV.ds ys=a_ es->zD ds es=ltL (ltP n) xs ys:=by
   intro xs
   induction xs with
   |nil=>
    intro ys ds es _ _ h1 h2;cases h1
    cases ys with
    |nil=>cases h2;simp[zD,ltL]
    |cons y ys=>let⟨d,r,_,_,rfl⟩:=iE h2;simp[zD,ltL]
   |cons x xs ihx=>
    intro ys ds es hx hy h1 h2;let⟨d,r,g1,g2,rfl⟩:=iE h1;simp only[y1r,zg]at hx;cases ys with
    |nil=>cases h2;simp[zD,ltL]
    |cons y ys=>let⟨e,q,g3,g4,rfl⟩:=iE h2;simp only[y1r,zg]at hy;simp only[zD,ltL,JV n x y d e hx.1 hy.1 g1 g3,ihx ys r q hx.2 hy.2 g2 g4,ih x y d e hx.1 hy.1 g1 g3,decide_eq_true_eq]
  cases x with
  |tup xs=>
   let⟨ds,g1,rfl⟩:=dQ h1;cases y with
   |tup ys=>let⟨es,g2,rfl⟩:=dQ h2;simp only[ltD,lists xs ys ds es hx hy g1 g2,ltP]
   |non=>cases h2;simp[ltD,ltP]
   |int j=>cases h2;simp[ltD,ltP]
   |str j=>cases h2;simp[ltD,ltP]
   |_=>simp[PV.pl]at hy
  |non=>cases h1;cases y <;> first|(simp[PV.pl]at hy;done)|(let⟨es,g2,rfl⟩:=dQ h2;simp[ltD,ltP];done)|(cases h2;simp[ltD,ltP])
  |int i=>cases h1;cases y <;> first|(simp[PV.pl]at hy;done)|(let⟨es,g2,rfl⟩:=dQ h2;simp[ltD,ltP];done)|(cases h2;simp[ltD,ltP])
  |str i=>cases h1;cases y <;> first|(simp[PV.pl]at hy;done)|(let⟨es,g2,rfl⟩:=dQ h2;simp[ltD,ltP];done)|(cases h2;simp[ltD,ltP])
  |_=>simp[PV.pl]at hx
variable{C:MC}{k:Nat}{X:Cx}
theorem OI:q0j X->gQ X (.builtin "sum") (λxs H Q=>∃(p:td)(ns:z_ Int),xs=[.ref p]/\SqL C.K H p (q1x 0)/\Q (.int ns.sum) H):=λc=>by
 intro P1 s σ H xs us Q I r h;let⟨p,ns,rfl,hq,q⟩:=h;let⟨u,rfl,ru⟩:=vals1 r;cases ru
 rw[<-c.K]at hq;let⟨its,rv,pl,hz⟩:=I.list hq;let hi:IntsAre its ns:=intsAre_of rv;let⟨ys,hy⟩:=hi.allInts.items;let hl:=pl.isList;rw[hy]at hl;refine sum_intListG (I.ok.hd c.calm) hl λh' tk t' hk=>?_;let e:preSum (numAt ys) ys.size=ns.sum:=by let e1:=preSum_eq ys ys.size;rw[List.take_of_length_le (by simp)]at e1;rw[e1,<-nums_intItems,<-hy];have:=hi.numsOf;rw[show its.toArray.toList=its from rfl,this]
 rw[e];show⟨.int ns.sum,H,I.kept hk,⟨_,rfl⟩,q⟩
def Hc:z_ PV->A_ (z_ Int)
 |[]=>a_ []
 |.int i::r=>(Hc r).map (i::·)
 |_::_=>b_
theorem Nu{φ:z_ td}{H:Hp}:∀{xs:z_ PV}{vs:z_ V}{ns:z_ Int},G_ xs vs->Hc xs=a_ ns->vs=q1x 0
 |[],[],_,_,e=>by cases e;rfl
 |x::xs,v::vs,ns,⟨h,r⟩,e=>by
  cases x with
  |int i=>
   cases h
   simp only[Hc,zq]at e;let⟨m,e,rfl⟩:=e;rw[Nu r e];rfl
  |_=>cases e
 |[],_::_,_,h,_=>h.elim
 |_::_,[],_,h,_=>h.elim
theorem OJ(ns:z_ Int):Hc (q1s 0)=a_ ns:=by
 induction ns with
 |nil=>rfl
 |cons n ns ih=>simp[Hc,ih]
def OK:z_ PV->PH->Rs PV:=λxs h=>match xs with
 |[x]=>match sI x h with
  |some ys=>match Hc ys with
   |some ns=>.ok (.int ns.sum) h
   |none=>.bad
  |none=>.bad
 |_=>.bad
theorem VR:Av C k X (.builtin "sum") OK:=λc=>(OI c).imp λvs H Q h=>by
 let⟨φ,h,ps,rh,rv,po⟩:=h;unfold OK at po;split at po
 ·let⟨v,rfl,rx⟩:=rv.one;split at po
  ·rename_i ys e;split at po
   ·rename_i ns en;let⟨a,vs,rfl,sa,ra⟩:=Aw rh rx e;rw[Nu ra en]at sa;show⟨a,ns,rfl,sa,R_ rfl⟩
   ·show po.elim
  ·show po.elim
 ·show po.elim
theorem JX(e:h[n]?=a_ (.lst (q1s 0))):OK [.ref n] h=.ok (.int ns.sum) h:=by
 let e1:sI (.ref n) h=a_ (q1s 0):=by unfold sI cB;simp only[e]
 unfold OK;simp only[e1,OJ]
open PySem
@[simp]theorem ZS{lo:A_ Int}{hi:A_ Int}(c:z.length<=16777216):vSl (.str z) lo hi h=.ok (.str (y0T z lo hi)) h:=if_pos c
@[simp]theorem ZT{lo:A_ Int}{hi:A_ Int}:vSl (.tup xs) lo hi h=.ok (.tup (mT xs lo hi)) h:=(rfl)
@[simp]theorem zaQ{lo:A_ Int}{hi:A_ Int}:vSl (.fl xs) lo hi h=.ok (.ref h.length) (h++[.lst (mT xs lo hi)]):=(rfl)
theorem Ip{lo:A_ Int}{hi:A_ Int}(e:h[n]?=a_ (.lst xs)):vSl (.ref n) lo hi h=.ok (.ref h.length) (h++[.lst (mT xs lo hi)]):=by
 let e3:cB h n=a_ xs:=by unfold cB;rw[e]
 unfold vSl;simp only[e3]
@[simp]theorem ZU{x:PV}:vIs x .non h=.ok (.bl (mS x)) h:=(rfl)
@[simp]theorem Xe{x:PV}:Bw x .non h=.ok (.bl (!mS x)) h:=(rfl)
section
variable{tg:Mg}{g:PH->Bool}
theorem Iq{δ0:Ev}{Q:PV->PH->Prop}(I:Nat->PH->Prop):∀(xs:z_ PV)(k:Nat)(h:PH),I k h->
  (∀i x h,k<=i->xs[i-k]?=a_ x->I i h->g h=true/\∃δ1,tg x δ0=a_ δ1/\(tst δ1 h).W λb h'=>if b=true then(elt δ1 h').W λp jx=>∃ys,jx[n]?=a_ (.lst ys)/\ys.length<16777216/\I (i+1) (jx.set n (.lst (ys++[p]))) else I (i+1) h')->
  (∀h,I (k+xs.length) h->g h=true/\Q (.ref n) h)->(uT g tg tst elt δ0 n xs h).W Q
 |[],k,h,i0,_,fin=>by let⟨h1,h2⟩:=fin h i0;simp[uT,h1,h2]
 |x::xs,k,h,i0,step,fin=>by
  let⟨h1,δ1,h2,h3⟩:=step k x h (yg _) (by simp) i0;let go:∀h2,I (k+1) h2->(uT g tg tst elt δ0 n xs h2).W Q:=λh2 i2=>
   Iq I xs (k+1) h2 i2 (λi y h hk hy=>step i y h ⋯ (by
    have:i-k=(i-(k+1))+1:=⋯;rw[this,y0X];show hy)) (λh hi=>fin h (by
    let e:k+(x::xs).length=k+1+xs.length:=by simp;omega
    rw[e];show hi))
  unfold uT;rw[if_pos h1,h2]
  change(Rs.bind (tst δ1 h) _).W Q
  rw[Ik];refine LX h3 λb h' hb=>?_;cases b with
  |false=>exact go h' (k_ hb)
  |true=>
   change(Rs.bind (elt δ1 h') _).W Q
   rw[Ik];refine LX (show(elt δ1 h').W _ from by simpa using hb) λp jx hp=>?_
   let⟨ys,e,hz,hi⟩:=hp;let e':iU jx n=a_ ys:=by unfold iU;rw[e]
   simp[e',hz];show go _ hi
theorem xQ{α:Type}{ys:z_ α}{emb:α->PV}(f:α->A_ PV)(e:mi δ h=.ok ⟨ys.map emb,g⟩ h1)(hg:∀h,Ext h1 h->g h=true)(hz:ys.length<=16777216)(step:∀y∈ys,∃δ1,tg (emb y) (nY js δ)=a_ δ1/\∀h,Ext h1 h->match f y with
   |none=>tst δ1 h=.ok false h
   |some p=>tst δ1 h=.ok true h/\elt δ1 h=.ok p h):gO js mi tg tst elt δ h=.ok (.ref h1.length) (h1++[.lst (ys.filterMap f)]):=by
 let w:(gO js mi tg tst elt δ h).W λp h'=>p=.ref h1.length/\h'=h1++[.lst (ys.filterMap f)]:=by
  unfold gO;rw[e,Rs.bind_ok];refine Iq (λi h'=>h'=h1++[.lst ((ys.take i).filterMap f)]) (ys.map emb) 0 _ (by simp) (λi x h' _ hx hi=>?_) (λh' hi=>?_)
  ·subst hi;let hx:(ys.map emb)[i]?=a_ x:=by simpa using hx
   rw[yy]at hx;let⟨y,hy,rfl⟩:=zq.mp hx;let hil:=(xt.mp hy).1;let⟨δ1,ht,hs⟩:=step y (zi hy);let hs:=hs (h1++[.lst ((ys.take i).filterMap f)]) (H_ _);let htk:ys.take (i+1)=ys.take i++[y]:=by rw[List.take_add_one,hy];rfl
   refine⟨hg _ (H_ _),δ1,ht,?_⟩;cases ef:f y with
   |none=>rw[ef]at hs;rw[hs];simp[htk,ef]
   |some p=>rw[ef]at hs;rw[hs.1];simp[hs.2];refine⟨?_,by simp[htk,ef]⟩;have:=List.length_filterMap_le f (ys.take i);rw[y03]at this;omega
  ·subst hi;simp;show hg _ (H_ _)
 let⟨p,h',e,rfl,rfl⟩:=pH w;show e
theorem JY(e:m δ h=.ok (.ref n) h1)(hn:h1[n]?=a_ (.lst xs)):dM m δ h=.ok ⟨xs,JS n xs⟩ h1:=by
 unfold dM;let e3:cB h1 n=a_ xs:=by unfold cB;rw[hn]
 rw[e,Rs.bind_ok];unfold ofSeq;simp only[e3]
theorem JZ(hn:h1[n]?=a_ (.lst xs)):∀h,Ext h1 h->JS n xs h=true:=λh hx=>by
 let e3:cB h n=a_ xs:=by unfold cB;rw[hx _ _ hn]
 unfold JS;rw[e3];show PV.beqs_self xs
theorem QP(e:m δ h=.ok (.tup xs) h1):dM m δ h=.ok ⟨xs,λ_=>true⟩ h1:=by unfold dM;rw[e];rfl
theorem sL{α:Type}{ys:z_ α}{emb:α->PV}(f:α->A_ PV)(e:m δ h=.ok (.ref n) h1)(hn:h1[n]?=a_ (.lst (ys.map emb)))(hz:ys.length<=16777216)(step:∀y∈ys,∃δ1,tg (emb y) (nY js δ)=a_ δ1/\∀h,Ext h1 h->match f y with
   |none=>tst δ1 h=.ok false h
   |some p=>tst δ1 h=.ok true h/\elt δ1 h=.ok p h):gO js (dM m) tg tst elt δ h=.ok (.ref h1.length) (h1++[.lst (ys.filterMap f)]):=
 xQ f (JY e hn) (JZ hn) hz step
theorem Hd{α:Type}{ys:z_ α}{emb:α->PV}(f:α->A_ PV)(e:m δ h=.ok (.tup (ys.map emb)) h1)(hz:ys.length<=16777216)(step:∀y∈ys,∃δ1,tg (emb y) (nY js δ)=a_ δ1/\∀h,Ext h1 h->match f y with
   |none=>tst δ1 h=.ok false h
   |some p=>tst δ1 h=.ok true h/\elt δ1 h=.ok p h):gO js (dM m) tg tst elt δ h=.ok (.ref h1.length) (h1++[.lst (ys.filterMap f)]):=
 xQ f (QP e) (λ_ _=>rfl) hz step
theorem K0(lo:Int):∀n,upTo lo n=(za n).map (λ(i:Nat)=>PV.int (lo+(i:Int)))
 |0=>rfl
 |n+1=>by
  rw[upTo,K0 (lo+1) n,List.range_succ_eq_map,yq,z7];congr 1
  ·simp
  ·apply y0B;intro a _;simp only[Function.comp_def];congr 1;omega
theorem K1{j:Int}(f:Nat->A_ PV)(e:ms δ h=.ok [.int j] h1)(hj:-4611686018427387904<=j/\j<16777216)(step:∀i:Nat,(i:Int)<j->∃δ1,tg (.int i) (nY js δ)=a_ δ1/\∀h,Ext h1 h->match f i with
   |none=>tst δ1 h=.ok false h
   |some p=>tst δ1 h=.ok true h/\elt δ1 h=.ok p h):gO js (vN ms) tg tst elt δ h=.ok (.ref h1.length) (h1++[.lst ((za j.toNat).filterMap f)]):=by
 refine xQ (emb:=λi:Nat=>.int ((0:Int)+i)) (g:=λ_=>true) f ?_ (λ_ _=>rfl) (by simp;omega) (λi hi=>?_)
 ·unfold vN;rw[e];let l9:-(2 ^ 62)<=j/\j<2 ^ 62:=⟨hj.1,⋯⟩;simp only[Rs.bind_ok,Nl,if_pos l9];rw[K0]
 ·let aw:=List.mem_range.mp hi;rw[Int.zero_add];show step i ⋯
theorem filterMap_some{α β:Type}(f:α->β)(xs:z_ α):xs.filterMap (λx=>a_ (f x))=xs.map f:=by
 induction xs with
 |nil=>rfl
 |cons x xs ih=>simp[ih]
end
mutual
theorem QQ(I:Q_ s)(hK:X.K=C.K):∀(n:Nat){p:PV}{v:V}{u:r_},p.ky n=true->E_ p v->RelV v u->q1r p u
 |_,.int i,v,u,_,r,ru=>by cases r;show ru
 |_,.str i,v,u,_,r,ru=>by cases r;show ru
 |n+1,.tup ps,v,u,hk,r,ru=>by
  let⟨a,vs,rfl,q,rs⟩:=r;cases ru
  rw[<-hK]at q;let⟨its,rv,p,_⟩:=I.tuple q;show⟨a,its,rfl,p,Ir I hK n (y1.mp hk) rs rv⟩
 |0,.tup _,_,_,hk,_,_=>by cases hk
 |n,.non,_,_,hk,_,_=>by cases n <;> cases hk
 |n,.bl _,_,_,hk,_,_=>by cases n <;> cases hk
 |n,.ref _,_,_,hk,_,_=>by cases n <;> cases hk
 |n,.ty _,_,_,hk,_,_=>by cases n <;> cases hk
 |n,.fl _,_,_,hk,_,_=>by cases n <;> cases hk
theorem Ir(I:Q_ s)(hK:X.K=C.K):∀(n:Nat){ps:z_ PV}{vs:z_ V}{us:z_ r_},(∀p∈ps,p.ky n=true)->G_ ps vs->bH vs us->HRs s.heap ps us
 |_,[],[],us,_,_,ru=>by cases ru;trivial
 |n,p::ps,v::vs,us,hk,r,ru=>by
  cases ru with
  |cons h t=>exact⟨QQ I hK n (hk p ye) r.1 h,Ir I hK n (λq hq=>hk q (yd _ hq)) r.2 t⟩
 |_,[],_::_,_,_,r,_=>r.elim
 |_,_::_,[],_,_,r,_=>r.elim
end
abbrev Iu:z_ (PV×td×V)->z_ (PV×td×r_)->Prop:=Paired λp q=>p.1=q.1/\p.2.1=q.2.1/\RelV p.2.2 q.2.2
def HD(C:MC)(φ:z_ td)(H:Hp)(X:Cx)(s:s_)(a:td)(kvs:z_ (PV×PV)):Prop:=
 ∃ks xs,q0V 0/\Iu ks xs/\xs.length<=yo/\(a == y0o)=false/\s.heap.DictOfH (CJ X.prog X.w) a xs
def cO(h:PH)(n:Nat):A_ (z_ (PV×PV)):=match h[n]? with
 |some (.dD kvs)=>a_ kvs
 |some (.dK [])=>a_ []
 |_=>b_
def PV.isKt:PV->Bool
 |.tup xs=>(PV.tup xs).ky 6
 |_=>false
theorem DG(h:p.isKt=true):p.ky 6=true:=by cases p <;> first|exact h|cases h
theorem xR(h:p.isKt=true)(r:E_ p v):∃b,v=.ref b:=by cases p <;> first|(let⟨b,_,e,_⟩:=r;show⟨b,e⟩)|cases h
variable{kvs:z_ (PV×PV)}
theorem vP(I:Q_ s)(hK:X.K=C.K)(hw:X.w=C.w)(rh:K_ h)(ha:φ[n]?=a_ a)(e:cO h n=a_ kvs):HD C φ H X s a kvs/\Mut (H a)/\CG (H a):=by
 unfold cO at e;split at e
 ·rename_i kv hk;cases e
  let⟨ks,hH,r⟩:=q0h hk;let hO:q0x H s.heap a (dDO C.w a ks):=I.hok a _ hH;let⟨⟨hz,hm,xs,rx,o,es,ep,h1,h2,h3,h4,h5⟩,_⟩:=hO;refine⟨⟨ks,xs,r,rx,by rw[<-y0b rx];show hz,hm,o,es,ep,h1,h2,h3,?_,?_,h5⟩,by rw[hH];show y08,by rw[hH];show y08⟩
  ·rw[h4,<-hw];rfl
  ·let all:∀{l:z_ (PV×PV)}{m:z_ (PV×td×V)}{z:z_ (PV×td×r_)},RKd C φ H l m->Iu m z->∀x∈z,(CJ X.prog X.w).is s.heap x.1 x.2.1:=by
    intro l m z q;unfold RKd at q
    induction q generalizing z with
    |nil=>intro rz x hx;cases rz;cases hx
    |cons hq t ih=>
     intro rz x hx;cases rz with
     |cons hz' tz=>
      rcases yr.mp hx with e|hx
      ·subst e;refine⟨?_,?_⟩
       ·rw[<-hz'.1,<-hq.1];show hq.2.1
       ·rw[<-hz'.1,<-hq.1,<-hz'.2.1];show QQ I hK 6 hq.2.1 hq.2.2.1 rfl
      ·show ih tz x hx
   show all r rx
 ·rename_i hk;cases e
  let⟨ks,hH,r⟩:=q0h hk;have:ks=[]:=by cases r;rfl
  subst this;let⟨z,hd,vs,rel,o,es,ep,h1,h2,h3,h4,h5,h6⟩:=JB I.hok hH;have:vs=[]:=by cases rel;rfl
  subst this;refine⟨⟨[],[],.nil,.nil,y9 _,hd,o,es,ep,h1,h2,h3,?_,(λx hx=>nomatch hx),List.nodup_nil⟩,by rw[hH];show y08,by rw[hH];show y08⟩;cases he:es.toList with
  |nil=>rfl
  |cons y ys=>rw[he]at h5;cases h5
 ·cases e
variable{ks:z_ (PV×td×V)}
theorem HD.val{a:td}{xs:z_ (PV×td×r_)}(r:q0V 0)(rx:Iu ks xs)(k:PV):match q0H k,(atKey xs k).map (·.2) with
  |some p,a_ u=>∃v,RelV v u/\E_ p v
  |none,b_=>True
  |_,_=>False:=by
 unfold RKd at r
 induction r generalizing xs with
 |nil=>cases rx;trivial
 | @cons p q ps qs h t ih=>
  cases rx with
  | @cons q' x qs' xs' hx tx=>
   let⟨pk,pv⟩:=p;by_cases e:pk=k
   ·let e':x.1=k:=hx.1.symm.trans (h.1.symm.trans e);let b:atKey (x::xs') k=a_ x.2:=by simp[atKey,y1h,e']
    rw[b];unfold bB;rw[if_pos e];show⟨_,hx.2.2,h.2.2.2⟩
   ·let e':¬ x.1=k:=λz=>e (h.1.trans (hx.1.trans z));let b:atKey (x::xs') k=atKey xs' k:=by simp[atKey,y1h,e']
    rw[b];unfold bB;rw[if_neg e];show ih tx
def lW{κ:Type}[q0P 0](kvs:z_ (κ×PV))(k:κ)(p:PV):z_ (κ×PV):=if(q0H k).isSome then kvs.map (λkv=>if kv.1=k then(kv.1,p) else kv) else kvs++[(k,p)]
theorem HD.replace{a:td}{xs:z_ (PV×td×r_)}(r:q0V 0)(rx:Iu ks xs)(k:PV)(rp:E_ p v)(ru:RelV v u):
  ∃cw,RKd C φ H (kvs.map λkv=>if kv.1=k then(kv.1,p) else kv) cw/\Iu cw (xs.map (putAt k u)):=by
 unfold RKd at r
 induction r generalizing xs with
 |nil=>cases rx;show⟨[],.nil,.nil⟩
 | @cons pp q ps qs h t ih=>
  cases rx with
  | @cons q' x qs' xs' hx tx=>
   let⟨cw,r1,r2⟩:=ih tx;by_cases e:pp.1=k
   ·refine⟨(q.1,q.2.1,v)::cw,.cons ?_ r1,.cons ?_ r2⟩
    ·simp only[if_pos e];show⟨h.1,h.2.1,h.2.2.1,rp⟩
    ·unfold putAt;rw[if_pos (hx.1.symm.trans (h.1.symm.trans e))];show⟨hx.1,hx.2.1,ru⟩
   ·refine⟨q::cw,.cons ?_ r1,.cons ?_ r2⟩
    ·simp only[if_neg e];show h
    ·unfold putAt;rw[if_neg λz=>e (h.1.trans (hx.1.trans z))];show hx
theorem HD.put{a b:td}{xs:z_ (PV×td×r_)}(r:q0V 0)(rx:Iu ks xs){k:PV}(hk:k.ky 6=true)(rk:E_ k (.ref b))(rp:E_ p v)(ru:RelV v u):
  ∃cw,RKd C φ H (lW kvs k p) cw/\Iu cw (storedH xs k b u):=by
 let hv:=HD.val (a:=b) r rx k;unfold lW storedH;cases e1:q0H k with
 |some p0=>
  rw[e1]at hv;cases e2:atKey xs k with
  |none=>rw[e2]at hv;show hv.elim
  |some z=>exact HD.replace (a:=b) r rx k rp ru
 |none=>
  rw[e1]at hv;cases e2:atKey xs k with
  |some z=>rw[e2]at hv;show hv.elim
  |none=>exact⟨ks++[(k,b,v)],Paired.snoc r ⟨rfl,hk,rk,rp⟩,Paired.snoc rx ⟨rfl,rfl,ru⟩⟩
theorem HD.isSome{xs:z_ (PV×td×r_)}(r:q0V 0)(rx:Iu ks xs)(k:PV):(atKey xs k).isSome=(q0H k).isSome:=by
 let hv:=HD.val (a:=0) r rx k;cases e1:q0H k with
 |some p0=>
  rw[e1]at hv;cases e2:atKey xs k with
  |none=>rw[e2]at hv;show hv.elim
  |some z=>rfl
 |none=>
  rw[e1]at hv;cases e2:atKey xs k with
  |some z=>rw[e2]at hv;show hv.elim
  |none=>rfl
theorem EC(I:Q_ s)(hK:X.K=C.K){b:td}(hk:p.isKt=true)(r:E_ p (.ref b)):(CJ X.prog X.w).is s.heap p b:=⟨DG hk,QQ I hK 6 (DG hk) r rfl⟩
theorem Cxt.room6{k:Nat}(c:q0j X):(CJ X.prog X.w).room X.A.in1:=by
 have:=c.hu64
 change X.A.units+1+6<cLine
 omega
def oJ(x y:PV)(h:PH):A_ (A_ PV):=match y with
 |.ref n=>if x.isKt=true then(cO h n).map λkvs=>q0H x else b_
 |_=>b_
def Nv(C:MC):V->V->Hp->(z_ td->A_ PV->Prop)->Prop:=λx y H R=>∃φ h p n a kvs,K_ h/\E_ p x/\y=.ref a/\φ[n]?=a_ a/\cO h n=a_ kvs/\p.isKt=true/\R φ (q0H p)
theorem zI{q:PV}{x:V}{o:A_ PV}{R:z_ td->A_ PV->Prop}(rh:K_ h)(rx:E_ p x)(ry:E_ q y)(e:oJ p q h=a_ o)(r:R φ o):Nv C x y H R:=by
 unfold oJ at e;cases q with
 |ref n=>
  let⟨a,rfl,ha⟩:=ry;dsimp only at e;split at e
  ·rename_i hk;cases e1:cO h n with
   |none=>rw[e1]at e;cases e
   |some kvs=>rw[e1]at e;cases e;show⟨φ,h,p,n,a,kvs,rh,rx,rfl,ha,e1,hk,r⟩
  ·cases e
 |_=>cases e
theorem Uq{k:Nat}(c:q0j X):q0C (zc .In) (λx y H Q=>Nv C x y H λ_ o=>Q (.bl o.isSome) H):=λP1 s σ H x y v u Q I rx ry h=>by
 let⟨φ,h,p,n,a,kvs,rh,rp,rfl,ha,ht,hk,q⟩:=h;cases ry
 let⟨b,rfl⟩:=xR hk rp;cases rx
 let⟨⟨ks,xs,r,bu,hz,hm,dd⟩,_⟩:=q0E 0;refine wpAny_in_heap c.room6 (EC I c.K hk rp) hm dd ?_;rw[HD.isSome r bu p];show⟨.bl _,H,q1v 0,rfl,q⟩
theorem M1{k:Nat}(c:q0j X):q0C (zc .NotIn) (λx y H Q=>Nv C x y H λ_ o=>Q (.bl (!o.isSome)) H):=λP1 s σ H x y v u Q I rx ry h=>by
 let⟨φ,h,p,n,a,kvs,rh,rp,rfl,ha,ht,hk,q⟩:=h;cases ry
 let⟨b,rfl⟩:=xR hk rp;cases rx
 let⟨⟨ks,xs,r,bu,hz,hm,dd⟩,_⟩:=q0E 0;refine wpAny_notIn_heap c.room6 (EC I c.K hk rp) hm dd ?_;rw[HD.isSome r bu p];show⟨.bl _,H,q1v 0,rfl,q⟩
def AD:PV->PV->PH->Rs PV:=λx y h=>match oJ x y h with
 |some o=>.ok (.bl o.isSome) h
 |none=>vIn x y h
def kK:PV->PV->PH->Rs PV:=λx y h=>match oJ x y h with
 |some o=>.ok (.bl (!o.isSome)) h
 |none=>Ex x y h
theorem Za{k:Nat}:q0o (zc .In) AD:=λc=>((zaB c).or (Uq c)).imp λx y H Q h=>by
 let⟨φ,h,p,q,rh,rx,ry,po⟩:=h;unfold AD at po;cases e:oJ p q h with
 |none=>rw[e]at po;show .inl ⟨φ,h,p,q,rh,rx,ry,po⟩
 |some o=>rw[e]at po;show .inr (zI rh rx ry e (R_ rfl))
theorem QR{k:Nat}:q0o (zc .NotIn) kK:=λc=>((U6 c).or (M1 c)).imp λx y H Q h=>by
 let⟨φ,h,p,q,rh,rx,ry,po⟩:=h;unfold kK at po;cases e:oJ p q h with
 |none=>rw[e]at po;show .inl ⟨φ,h,p,q,rh,rx,ry,po⟩
 |some o=>rw[e]at po;show .inr (zI rh rx ry e (R_ rfl))
theorem zaR{k:Nat}(c:q0j X):IxR X (λx y H Q=>Nv C y x H λφ o=>∃p,o=a_ p/\∀v:V,E_ p v->Q v H):=by
 intro value slice P1 s σ H x y v u Q I rx ry h hs;let⟨φ,h,p,n,a,kvs,rh,rp,rfl,ha,ht,hk,p',ep,q⟩:=h;cases rx
 let⟨b,rfl⟩:=xR hk rp;cases ry
 let⟨⟨ks,xs,r,bu,hz,hm,dd⟩,_⟩:=q0E 0;let hT:=dd.typeIs;let hv:=HD.val (a:=a) r bu p;rw[ep]at hv;cases e2:atKey xs p with
 |none=>rw[e2]at hv;show hv.elim
 |some z=>
  rw[e2]at hv;let⟨v',ag,cf⟩:=hv;unfold subscriptTail;refine xr ?_;rw[getitemInPython_of_ne hT.not_modules];refine xr (y0M hT PySem.F.slot_dict_getitem.lookup ?_);let fin:wpAny (g_ X) X.A (subscripted slice false (.ref a) (.ref b)) (λr s₃=>wpAny (g_ X) X.A (letTemporaryGo value (.ref a) r >>= λ_=>pure r) (q0g Q) X.xe s₃) X.xe s:=by rw[hs];show wpAny_operating (wpAny_getItem_heap c.room6 (EC I c.K hk rp) dd e2 (xr (wpAny_letTemporaryGo (xw ⟨v',H,q1v 0,ag,q v' cf⟩))))
  first
   |exact xw (xr fin)
   |exact xr (xw (xr fin))
   |exact xr fin
def vAt:PV->PV->PH->Rs PV:=λx y h=>match oJ y x h with
 |some (a_ p)=>.ok p h
 |some b_=>.bad
 |none=>vIx x y h
theorem bO{k:Nat}{a b:x_}(ha:I_ a ma)(hb:I_ b mb)(hs:N' b:=by intro _ _;rfl):I_ (.Subscript a b pos) (D_ ma mb):=λc=>
 (Yv ((ixC c.hu C.K c.K).or (zaR c)) (ha c) (hb c) hs).imp λσ H Q h=>by
  let⟨φ,δ,h,rh,re,p⟩:=Nh h;refine⟨φ,δ,h,rh,re,p.imp ?_⟩;rintro v H1 ⟨φ,δ,h,rh,re,p⟩;refine⟨φ,δ,h,rh,re,p.imp ?_⟩;rintro u H2 ⟨φ,h,p,q,rh,rx,ry,po⟩;unfold vAt at po;cases e:oJ q p h with
  |none=>rw[e]at po;show .inl (YS ⟨φ,h,p,q,rh,rx,ry,po⟩)
  |some o=>
   rw[e]at po;cases o with
   |none=>exact po.elim
   |some r=>exact .inr (zI rh ry rx e ⟨r,rfl,λv' rv=>R_ rv⟩)
def K2(x y v:PV)(h:PH):A_ PH:=match x with
 |.ref n=>match JO y,h[n]? with
  |some key,a_ (.dK kvs)=>if kvs.length<yo then a_ (h.set n (.dK (lW kvs key v))) else b_
  |some _,_=>b_
  |none,_=>if y.isKt=true then(match cO h n with
   |some kvs=>if kvs.length<yo then a_ (h.set n (.dD (lW kvs y v))) else b_
   |none=>b_) else b_
 |_=>b_
theorem M3{κ:Type}[q0P 0]{kvs:z_ (κ×PV)}{ks:z_ (κ×V)}(r:q0Z kvs ks)(a:κ):(q0H a).isSome=(vC ks a).isSome:=by
 have:=GY r a;cases e1:q0H a with
 |none=>
  cases e2:vC ks a with
  |none=>rfl
  |some v=>rw[e1,e2]at this;show this.elim
 |some p=>
  cases e2:vC ks a with
  |none=>rw[e1,e2]at this;show this.elim
  |some v=>rfl
theorem QS{κ:Type}[q0P 0]{kvs:z_ (κ×PV)}{ks:z_ (κ×V)}(r:q0Z kvs ks)(a:κ)(rp:E_ p v):q0Z (lW kvs a p) (putK ks a v):=by
 unfold lW putK;rw[E9,M3 r a];split
 ·rename_i hx;clear hx;unfold RKv at r⊢
  induction r with
  |nil=>exact .nil
  | @cons p' q' ps qs h t ih=>
   refine .cons ?_ ih;by_cases e:p'.1=a
   ·let e':q'.1=a:=h.1.symm.trans e;simp only[if_pos e,if_pos e'];show⟨h.1,rp⟩
   ·let e':¬ q'.1=a:=λz=>e (h.1.trans z);simp only[if_neg e,if_neg e'];show h
 ·show Paired.snoc r ⟨rfl,rp⟩
variable{px py:PV}{xu yu:r_}
theorem He{k:Nat}{h':PH}{pv:PV}{x:V}(c:q0j X)(rh:K_ h)(rx:E_ px x)(ry:E_ py y)(rv:E_ pv v)(e:K2 px py pv h=a_ h'){Q:jn Unit}(I:Q_ s)(lg:q1e xu)(df:RelV y yu)(ij:RelV v vu)(q:∀s' H',j_ H' s'->Kp H H'->RH C φ H' h'->Q () s'):wpAny (g_ X) X.A (setItem xu yu vu) Q X.xe s:=by
 unfold K2 at e;cases px with
 |ref n=>
  let⟨a,rfl,ha⟩:=rx;cases lg
  dsimp only at e;split at e
  ·rename_i key kvs g8 hk;split at e
   ·rename_i hl;cases e
    let⟨ks,hH,rk⟩:=q0h hk;let ey:y=kV key:=LV ry g8;subst ey;let jo:ks.length<yo:=by rw[<-y0b rk];show hl
    refine Oh c.hu I (.k hH jo) df ij λs' I'=>q s' _ I' (Kp.dK hH) ?_;refine rh.write ha (by rw[hH];show y08) ⟨_,bP,?_⟩;show(QS rk key rv).mono yk (Kp.dK hH)
   ·cases e
  ·cases e
  ·split at e
   ·rename_i hk;split at e
    ·rename_i kvs ht;split at e
     ·rename_i hl;cases e
      let⟨b,rfl⟩:=xR hk ry;cases df
      let⟨⟨ks,xs,r,bu,hz,hm,dd⟩,mu,nt⟩:=q0E 0;refine wpAny_setItem_heap (hsz:=hz) c.room6 (EC I c.K hk ry) dd λh' jv hs=>?_;let⟨cw,r1,r2⟩:=HD.put (a:=a) r bu (DG hk) ry rv ij;let⟨o,es,ep,hq,h2,h3,h4,_,h5⟩:=jv;let cm:cw.length<=yo:=by
       let e1:=y0b r1;let e2:(lW kvs py pv).length<=kvs.length+1:=by
        unfold lW;split
        ·rw[yh];omega
        ·simp
       omega
      refine q _ (Z_ a (dDO C.w a cw)) (DB I mu hs ⟨o,hq⟩ ⟨⟨cm,hm,_,r2,o,es,ep,hq,h2,h3,?_,h5⟩,⟨o,hq⟩,?_⟩) (Kp.upd nt) ?_
      ·rw[h4,<-c.w];rfl
      ·rintro g1 g2 ⟨z1,z2,ws,z3,o',kg,ji,z4,z5⟩ keep;show⟨z1,z2,ws,z3,o',kg,ji,keep _ z4,z5⟩
      ·show rh.write ha nt ⟨cw,bP,RKd.mono yk (Kp.upd nt) r1⟩
     ·cases e
    ·cases e
   ·cases e
 |_=>cases e
def MtG(C:MC)(k:Nat)(X:Cx)(T:String)(ty:PV->PH->Bool)(id:String)(g:PV->z_ PV->PH->Rs PV):Prop:=q0j X->MtR X id (rM C g)/\
 ∀P1 s σ H φ h p x v,Q_ s->K_ h->E_ p x->q1e v->ty p h=true->s.TypeIs v T/\∀a,v=.ref a->∃ob,s.heap.get? a=a_ ob/\ob.dict=b_
theorem Zb{k:Nat}{o:x_}{id:String}{g:PV->z_ PV->PH->Rs PV}(pa:PlainAttrs T)(slot:Slot T name id)(lz:typeOf (.builtin id)=pure (.type "method_descriptor"))(hm:MtG C k X T ty id g)(ho:I_ o mo)(ha:SA C k X (e::es) ms)(az:y16 o name X.env (eval o X.env)=eval o X.env:=by rfl)(d7:((backTo ai (yz (e::es) X.env)).all (λx=>!x.1)&&(backToKw ai (keywordEach [] X.env)).all (λx=>x.1.isSome)
   && decide ((e::es).length+([]:z_ Keyword).length+(if([]:z_ Keyword).isEmpty then 0 else 1)<30))=true:=by rfl)(ba:(apos.endLine == ai.line)=true:=by rfl)(hs:yz (e::es) X.env=(false,q0d 0)::q0e 0:=by rfl)(bw:(backTo ai (q0e 0)).any (·.1)=false:=by rfl):
  I_ (.Call (.Attribute o name apos) (e::es) [] ai) (mMt ty g mo ms):=λc P1 s σ H Q I ⟨φ,δ,h,rh,re,p⟩=>by
 refine wpAny_Call_method_late az d7 ba rfl (thn (ho c P1 s σ H _ I ⟨φ,δ,h,rh,re,post.bind p⟩) ?_);rintro v s1 ⟨x,H1,I1,r1,φ1,px,h1,p1,t1,af,ag,q1⟩;let⟨ht,q1⟩:=q1.ite;let⟨g1,g2⟩:=(hm c).2 P1 s1 σ H1 φ1 h1 px x v I1 af ag r1 ht;refine⟨T,id,pa,slot,lz,g1,g2,?_⟩;let hA:=ha c ai P1 s1 σ H1 _ I1 ⟨φ1,δ,h1,af,U_ 0,postA.bind q1⟩;rw[hs]at hA⊢;refine y2f (show(false || (backTo ai (q0e 0)).any (·.1))=false by rw[bw];rfl) (Calls.evalArgs_plain (thn hA ?_));rintro us s2 ⟨vs,H2,I2,r2,φ2,ps,h2,p2,t2,ao,cf,q2⟩;show(hm c).1 P1 s2 σ H2 x vs v us Q I2 r1 r2 ⟨φ2,h2,px,ps,ao,ag.mono p2 t2,cf,q2⟩
theorem QT{k:Nat}{o:x_}{id:String}{g:PV->z_ PV->PH->Rs PV}(pa:PlainAttrs T)(slot:Slot T name id)(lz:typeOf (.builtin id)=pure (.type "method_descriptor"))(hm:MtG C k X T ty id g)(ho:I_ o mo)(az:y16 o name X.env (eval o X.env)=eval o X.env:=by rfl)(ba:(apos.endLine == ai.line)=true:=by rfl):I_ (.Call (.Attribute o name apos) [] [] ai) (JT ty g mo):=λc P1 s σ H Q I ⟨φ,δ,h,rh,re,p⟩=>by refine wpAny_Call_method0_late az ba (thn (ho c P1 s σ H _ I ⟨φ,δ,h,rh,re,post.bind p⟩) ?_);rintro v s1 ⟨x,H1,I1,r1,φ1,px,h1,p1,t1,af,ag,q1⟩;let⟨ht,q1⟩:=q1.ite;let⟨g1,g2⟩:=(hm c).2 P1 s1 σ H1 φ1 h1 px x v I1 af ag r1 ht;show⟨T,id,pa,slot,lz,g1,g2,y2f rfl (PySem.evalArgs_none ((hm c).1 P1 s1 σ H1 x [] v [] Q I1 r1 .nil ⟨φ1,h1,px,[],af,ag,trivial,q1⟩))⟩
def lB(x:PV)(h:PH):Bool:=match x with
 |.ref n=>match h[n]? with
  |some (.dK _)=>true
  |some (.dD _)=>true
  |_=>false
 |_=>false
theorem ED{k:Nat}(c:q0j X):∀P1 s σ H φ h p x v,Q_ s->K_ h->E_ p x->q1e v->lB p h=true->s.TypeIs v "dict" /\ ∀a,v=.ref a->∃ob,s.heap.get? a=a_ ob/\ob.dict=b_:=by
 intro P1 s σ H φ h p x v I rh rv r e;unfold lB at e;cases p with
 |ref n=>
  let⟨a,rfl,ha⟩:=rv;cases r
  dsimp only at e;split at e
  ·rename_i kvs hk;let⟨ks,hH,rk⟩:=q0h hk;let⟨z,hd,vs,rel,dd⟩:=JB I.hok hH;refine⟨dd.typeIs,λb eb=>?_⟩;cases eb
   let⟨ob,_,_,h1,h2,_⟩:=dd;show⟨ob,h1,h2.2.1⟩
  ·rename_i kvs hk;let ht:cO h n=a_ kvs:=by unfold cO;rw[hk]
   let⟨⟨ks,xs,r,bu,hz,hm,dd⟩,_⟩:=q0E 0;refine⟨dd.typeIs,λb eb=>?_⟩;cases eb
   let⟨ob,_,_,h1,h2,_⟩:=dd;show⟨ob,h1,h2.2.1⟩
  ·cases e
 |_=>cases e
def dG(h:PH)(x y:PV):A_ (A_ PV):=match oJ y x h with
 |some o=>a_ o
 |none=>match x with
  |.ref n=>LU h n y
  |_=>b_
def Iv:PV->z_ PV->PH->Rs PV:=λx ps h=>match ps with
 |[y]=>match dG h x y with
  |some o=>.ok (o.getD .non) h
  |none=>.bad
 |[y,z]=>match dG h x y with
  |some o=>.ok (o.getD z) h
  |none=>.bad
 |_=>.bad
theorem QU{x y:PV}{o:A_ PV}(e:oJ x y h=a_ o):∃n kvs,y=.ref n/\x.isKt=true/\cO h n=a_ kvs/\o=q0H x:=by
 unfold oJ at e;cases y with
 |ref n=>
  dsimp only at e;split at e
  ·rename_i hk;cases e1:cO h n with
   |none=>rw[e1]at e;cases e
   |some kvs=>rw[e1]at e;cases e;show⟨n,kvs,rfl,hk,e1,rfl⟩
  ·cases e
 |_=>cases e
theorem Xf{k:Nat}(c:q0j X):MtR X "dict.get" (rM C Iv):=λP1 s σ H x xs v us Q I rx rs h=>by
 let⟨φ,h,p,ps,rh,rp,ju,po⟩:=h
 -- what is found
 let key:∀{y:PV}{yv:V}{yu:r_}{o:A_ PV}{d:PV}{dv:V}{du:r_}{more:z_ r_},dG h p y=a_ o->E_ y yv->RelV yv yu->E_ d dv->RelV dv du->
   ((more=[]/\du=.none/\dv=.non)\/more=[du])->(∀z,E_ (o.getD d) z->Q z H)->wpAny (g_ X) X.A (call (.builtin "dict.get") (v::yu::more)) (q0g Q) X.xe s:=by
  intro y yv yu o d dv du more e ry df rd rdu hm q;unfold dG at e;cases e1:oJ y p h with
  |some o'=>
   rw[e1]at e;cases e
   let⟨n,kvs,rfl,hk,ht,rfl⟩:=QU e1;let⟨a,rfl,ha⟩:=rp;cases rx
   let⟨b,rfl⟩:=xR hk ry;cases df
   let⟨⟨ks,xs,r,bu,hz,qa,dd⟩,_⟩:=q0E 0;let hv:=HD.val (a:=a) r bu y;let fin:q0g Q (((atKey xs y).map (·.2)).getD du) { s with toks:=s.toks+(CJ X.prog X.w).draws y}:=by
    cases e2:q0H y with
    |some p2=>
     rw[e2]at hv q;cases e3:atKey xs y with
     |none=>rw[e3]at hv;show hv.elim
     |some z=>rw[e3]at hv;let⟨v',ag,cf⟩:=hv;show⟨v',H,q1v 0,ag,q v' cf⟩
    |none=>
     rw[e2]at hv q;cases e3:atKey xs y with
     |some z=>rw[e3]at hv;show hv.elim
     |none=>exact⟨dv,H,q1v 0,rdu,q dv rd⟩
   rcases hm with⟨rfl,rfl,_⟩|rfl
   ·show q1f (y19 _ _) (meetsH_dict_get (CJ X.prog X.w) a b qa) ⟨c.room6,y,xs,EC I c.K hk ry,dd,fin⟩
   ·show q1f (PySem.F.args_dict_get_3 _ _ _) (meetsH_dict_get_default (CJ X.prog X.w) a b qa du) ⟨c.room6,y,xs,EC I c.K hk ry,dd,fin⟩
  |none=>
   rw[e1]at e;cases p with
   |ref n=>
    let⟨a,rfl,ha⟩:=rp;cases rx
    dsimp only at e;let⟨o',g,is,val⟩:=zF rh ha ry e;let fin:∀w' s',Q_ s'->RelV (o'.getD dv) w'->q0g Q w' s':=λw' s' I' r'=>by
     refine⟨o'.getD dv,H,I',r',q _ ?_⟩;cases o with
     |some p2=>let⟨w2,rfl,rw2⟩:=val p2 rfl;show rw2
     |none=>
      cases o' with
      |none=>exact rd
      |some z=>cases is
    rcases hm with⟨rfl,rfl,rfl⟩|rfl
    ·show WE c.hu I g df fin
    ·show WG c.hu I g df rdu fin
   |_=>cases e
 unfold Iv at po;split at po
 ·rename_i y;split at po
  ·rename_i o e;let⟨yv,rfl,ry⟩:=ju.one;let⟨yu,rfl,df⟩:=vals1 rs;show key (d:=.non) (dv:=.non) (du:=.none) e ry df rfl rfl (.inl ⟨rfl,rfl,rfl⟩) λz rz=>R_ rz
  ·show po.elim
 ·rename_i y z;split at po
  ·rename_i o e;let⟨yv,zv,rfl,ry,rz⟩:=ju.two;let⟨yu,zu,rfl,df,rzu⟩:=vals2 rs;show key e ry df rz rzu (.inr rfl) λz rz=>R_ rz
  ·show po.elim
 ·show po.elim
theorem Zc{k:Nat}:MtG C k X "dict" lB "dict.get" Iv:=λc=>⟨Xf c,ED c⟩
def OL(x:z_ Key):z_ (z_ Key)->z_ (z_ Key)
 |[]=>[x]
 |y::ys=>if fE y x=true then y::OL x ys else x::y::ys
def oK:z_ (z_ Key)->z_ (z_ Key)
 |[]=>[]
 |x::xs=>OL x (oK xs)
theorem Bz(x:z_ Key):∀ys,(OL x ys).Perm (x::ys)
 |[]=>.refl _
 |y::ys=>by
  unfold OL;split
  ·show((Bz x ys).cons y).trans (.swap x y ys)
  ·show .refl _
theorem lE:∀xs,(oK xs).Perm xs
 |[]=>.refl _
 |x::xs=>(Bz x _).trans ((lE xs).cons x)
theorem CM{S:z_ Bool}{x:z_ Key}(hx:shape x=S):∀{ys:z_ (z_ Key)},(∀y∈ys,shape y=S)->ys.Pairwise (λa b=>fE b a=false)->(OL x ys).Pairwise (λa b=>fE b a=false)
 |[],_,_=>y1t _ _
 |y::ys,hs,hp=>by
  let hy:=hs y ye;let d0:=λz hz=>hs z (yd _ hz);rw[z0]at hp;unfold OL;split
  ·rename_i h;rw[z0];refine⟨λz hz=>?_,CM hx d0 hp.2⟩;rcases yr.mp ((Bz x ys).mem_iff.mp hz) with rfl|hz
   ·show Ap h
   ·show hp.1 z hz
  ·rename_i h;let h':fE y x=false:=by simpa using h
   rw[z0];refine⟨λz hz=>?_,z0.mpr hp⟩;rcases yr.mp hz with rfl|hz
   ·show h'
   ·show xK (hx.trans hy.symm) (hy.trans (d0 z hz).symm) h' (hp.1 z hz)
theorem yU{S:z_ Bool}:∀{xs:z_ (z_ Key)},(∀y∈xs,shape y=S)->(oK xs).Pairwise (λa b=>fE b a=false)
 |[],_=>.nil
 |x::xs,hs=>CM (hs x ye) (λy hy=>hs y (yd _ ((lE xs).mem_iff.mp hy))) (yU λy hy=>hs y (yd _ hy))
variable{S:z_ Bool}
theorem zJ{xs ys:z_ (z_ Key)}(hs:∀y∈xs,shape y=S)(hp:ys.Perm xs)(h:ys.Pairwise (λa b=>fE b a=false)):ys=oK xs:=by refine y1Y (le:=λa b=>fE b a=false) (λa b ha hb h1 h2=>?_) h (yU hs) (hp.trans (lE xs).symm);show Aq ((hs a (hp.mem_iff.mp ha)).trans (hs b ((lE xs).mem_iff.mp hb)).symm) h2 h1
def kP:Key->PV
 |.inl i=>.int i
 |.inr x=>.str x
theorem Ur{x:PV}{a:Key}(h:JO x=a_ a):x=kP a:=by cases x <;> first|(cases h;rfl)|cases h
@[simp]theorem Nw(a:Key):JO (kP a)=a_ a:=by cases a <;> rfl
def uV:z_ PV->A_ (z_ Key)
 |[]=>a_ []
 |x::xs=>match JO x,uV xs with
  |some a,a_ r=>a_ (a::r)
  |_,_=>b_
theorem AE:∀{xs:z_ PV}{ks:z_ Key},uV xs=a_ ks->xs=ks.map kP
 |[],_,h=>by cases h;rfl
 |x::xs,ks,h=>by
  unfold uV at h;cases e1:JO x with
  |none=>rw[e1]at h;cases h
  |some a=>
   cases e2:uV xs with
   |none=>rw[e1,e2]at h;cases h
   |some r=>
    rw[e1,e2]at h;cases h
    rw[Ur e1,AE e2];rfl
@[simp]theorem QV:∀ks:z_ Key,uV (ks.map kP)=a_ ks
 |[]=>rfl
 |a::ks=>by simp[uV,QV ks]
def tP(ks:z_ Key):PV:=.tup (ks.map kP)
def uW:z_ PV->A_ (z_ (z_ Key))
 |[]=>a_ []
 |.tup xs::r=>match uV xs,uW r with
  |some a,a_ b=>a_ (a::b)
  |_,_=>b_
 |_::_=>b_
theorem EE:∀{xs:z_ PV}{ks:z_ (z_ Key)},uW xs=a_ ks->xs=ks.map tP
 |[],_,h=>by cases h;rfl
 |x::xs,ks,h=>by
  cases x with
  |tup ys=>
   unfold uW at h;cases e1:uV ys with
   |none=>rw[e1]at h;cases h
   |some a=>
    cases e2:uW xs with
    |none=>rw[e1,e2]at h;cases h
    |some r=>
     rw[e1,e2]at h;cases h
     rw[AE e1,EE e2];rfl
  |_=>cases h
@[simp]theorem EF:∀ks:z_ (z_ Key),uW (ks.map tP)=a_ ks
 |[]=>rfl
 |a::ks=>by simp[uW,tP,EF ks]
def yJ(ae:z_ (z_ Key)):Bool:=match ae with
 |[]=>true
 |a::r=>(!a.isEmpty)&&r.all λx=>shape x == shape a
theorem zK(h:yJ ae=true):∃b sh,∀ks∈ae,shape ks=b::sh:=by
 cases ae with
 |nil=>exact⟨true,[],λ_ h=>nomatch h⟩
 |cons a r=>
  unfold yJ at h;rw[zg]at h;cases a with
  |nil=>cases h.1
  |cons z zs=>
   refine⟨kA z,shape zs,λks hk=>?_⟩;rcases yr.mp hk with rfl|hk
   ·rfl
   ·have:=y1.mp h.2 ks hk;show eq_of_beq this
section
variable{k:Nat}
theorem Zd{a:Key}:E_ (kP a) v↔Rep C.K H (kD a) v:=by cases a <;> exact Iff.rfl
theorem Iw{φ:z_ td}{H:Hp}:∀{ks:z_ Key}{vs:z_ V},G_ (ks.map kP) vs↔iQ C.K H (ks.map kD) vs
 |[],[]=>Iff.rfl
 |[],_::_=>Iff.rfl
 |_::_,[]=>Iff.rfl
 |_::_,_::_=>and_congr Zd Iw
theorem Ze{ks:z_ Key}:E_ (tP ks) v↔Rep C.K H (tD ks) v:=by
 constructor
 ·rintro⟨a,vs,e,s,r⟩;show⟨a,vs,e,s,Iw.mp r⟩
 ·rintro⟨a,vs,e,s,r⟩;show⟨a,vs,e,s,Iw.mpr r⟩
theorem AF{φ:z_ td}{H:Hp}:∀{ae:z_ (z_ Key)}{vs:z_ V},G_ (ae.map tP) vs↔iQ C.K H (ae.map tD) vs
 |[],[]=>Iff.rfl
 |[],_::_=>Iff.rfl
 |_::_,[]=>Iff.rfl
 |_::_,_::_=>and_congr Ze AF
def QW(xs:z_ PV):A_ (z_ PV):=match uW xs with
 |some ae=>if ae.length<64/\yJ ae=true then a_ ((oK ae).map tP) else b_
 |none=>match uV xs with
  |some ks=>if ks.length<64/\ks.all (λx=>kA x == kA (.inr ""))=true then a_ ((oK (ks.map λx=>[x])).flatten.map kP) else b_
  |none=>b_
theorem RH.same(r:K_ h)(s:E8 H H1):RH C φ H1 h:=⟨r.len,r.nd,λn b ob h1 h2=>by let q:=r.at' n b ob h1 h2;let⟨u,hu⟩:=q.some;show q.stay yk (Kp.same s) ((s _ _ hu).trans hu.symm)⟩
theorem Us{a b:Str}:fE [.inr a] [.inr b]=decide (a.cps.toList<b.cps.toList):=by
 unfold fE;split
 ·rename_i e;cases e
  simp[fE,List.lt_irrefl]
 ·rfl
theorem CN:∀{r:z_ Str}{p:Str},risingS p r=true->((p::r).map λx=>[(y1P x:Key)]).Pairwise (λa b=>fE b a=false)
 |[],p,_=>y1t _ _
 |x::r,p,h=>by
  let h0:fE [.inr x] [.inr p]=false/\risingS x r=true:=by unfold risingS at h;rw[zg,ltCps_eq]at h;rw[Us];show⟨k_ h.1,h.2⟩
  let ih:=CN h0.2;rw[yq,z0];refine⟨λz hz=>?_,ih⟩;let⟨y,hy,rfl⟩:=y6.mp hz;rcases yr.mp hy with rfl|hy
  ·show h0.1
  ·rw[yq,z0]at ih;show xK (a:=[.inr p]) (b:=[.inr x]) (c:=[.inr y]) rfl rfl h0.1 (ih.1 _ (y6.mpr ⟨y,hy,rfl⟩))
theorem Ut{ks:z_ Key}(h:ks.all (λx=>kA x == kA (.inr ""))=true):∃ss:z_ Str,ks=ss.map y1P:=by
 induction ks with
 |nil=>exact⟨[],rfl⟩
 |cons a ks ih=>
  rw[y1r,zg]at h;let⟨ss,e⟩:=ih h.2;cases a with
  |inl i=>exact absurd h.1 (by simp[kA])
  |inr x=>exact⟨x::ss,by rw[e];rfl⟩
theorem Iy{φ:z_ td}{H:Hp}:∀{ss:z_ Str}{vs:z_ V},G_ (ss.map PV.str) vs↔vs=ss.map V.str
 |[],[]=>by simp[RVs]
 |[],_::_=>by simp[RVs]
 |_::_,[]=>by simp[RVs]
 |x::ss,v::vs=>by simp only[yq,RVs,List.cons.injEq];show and_congr Iff.rfl Iy
theorem Hf:∀ss:z_ Str,(((ss.map λx=>[(y1P x:Key)]).flatten).map kP)=ss.map PV.str
 |[]=>rfl
 |x::ss=>by have:=Hf ss;simp only[yq,List.flatten_cons,List.singleton_append];rw[this];rfl
theorem OM{kvs:z_ (Key×PV)}{ks:z_ (Key×V)}(r:q0Z kvs ks):∀{ae:z_ (z_ Key)},uW (kvs.map λkv=>PV.tup [kP kv.1,kv.2])=a_ ae->ks.map (λkv=>[kV kv.1,kv.2])=ae.map (λks=>ks.map kV):=by
 unfold RKv at r
 induction r with
 |nil=>intro ae h;cases h;rfl
 | @cons p q ps qs h t ih=>
  intro ae e;rw[yq]at e;unfold uW at e;cases e1:uV [kP p.1,p.2] with
  |none=>rw[e1]at e;cases e
  |some a=>
   cases e2:uW (ps.map λkv=>PV.tup [kP kv.1,kv.2]) with
   |none=>rw[e1,e2]at e;cases e
   |some b=>
    rw[e1,e2]at e;cases e
    rw[yq,yq,ih e2];congr 1;unfold uV at e1;rw[Nw]at e1;cases e3:uV [p.2] with
    |none=>rw[e3]at e1;cases e1
    |some c=>
     rw[e3]at e1;cases e1
     have:=AE e3
     match c,this with
     |[d],this=>
      let e4:p.2=kP d:=by simpa using this
      let rv:=h.2;rw[e4]at rv;let e5:q.2=kV d:=LV rv (Nw d);rw[h.1,e5];rfl
     |[],this=>exact absurd this (by simp)
     |_::_::_,this=>exact absurd this (by simp)
def VS(h:PH)(n:Nat):A_ (z_ PV):=match h[n]? with
 |some (.vw 0 d)=>match h[d]? with
  |some (.dK kvs)=>a_ (kvs.map λkv=>.tup [kP kv.1,kv.2])
  |_=>b_
 |_=>b_
def rF:z_ PV->PH->Rs PV:=λxs h=>match xs with
 |[.ref n]=>match cB h n with
  |some ys=>match QW ys with
   |some zs=>.ok (.ref h.length) (h++[.lst zs])
   |none=>.bad
  |none=>match VS h n with
   |some ys=>match uW ys with
    |some ae=>if ae.length<64/\yJ ae=true then .ok (.ref h.length) (h++[.lst ((oK ae).map tP)]) else .bad
    |none=>.bad
   |none=>.bad
 |_=>.bad
theorem QX:Av C k X (.builtin "sorted") rF:=λc=>gQ.imp (gQ.or (I0 c.calm C.K c.K) (by have:=Bp (X:=X);rw[c.K]at this;show this)) λvs H Q h=>by
 let⟨φ,h,ps,rh,rv,po⟩:=h;unfold rF at po;split at po
 ·rename_i n;let⟨v,rfl,rx⟩:=rv.one;let⟨a,rfl,ha⟩:=rx;split at po
  ·rename_i ys e;let⟨a2,vs,aq,sa,ra⟩:=gR rh e;rw[ha]at aq;cases aq;split at po
   ·rename_i zs ez;unfold QW at ez;split at ez
    ·rename_i ae ek;split at ez
     ·rename_i hc;cases ez
      let ey:=EE ek;subst ey;let⟨b,sh,hsh⟩:=zK hc.2;refine .inl ⟨a,ae,sh,b,rfl,hc.1,hsh,.inl ⟨vs,sa,AF.mp ra,λl gn fc hl hp hs hr=>?_⟩⟩;rw[zJ hsh hp hs]at hr;show po.lnew rh (AF.mpr hr) hl
     ·cases ez
    ·split at ez
     ·rename_i ks ek;split at ez
      ·rename_i hc;cases ez
       let⟨ss,rfl⟩:=Ut hc.2;let ey:=AE ek;rw[z7]at ey;let ey':ys=ss.map PV.str:=ey;subst ey';let ev:=Iy.mp ra;subst ev;refine .inr ⟨a,ss,rfl,sa,k_ hc.1,λl f7 hl hp hs=>?_⟩;let e1:(f7.map λx=>[(y1P x:Key)])=oK ((ss.map y1P).map λx=>[x]):=by
        rw[z7];refine zJ (S:=[false]) (λy hy=>?_) (hp.map _) ?_
        ·let⟨z,_,rfl⟩:=y6.mp hy;rfl
        ·cases f7 with
         |nil=>exact .nil
         |cons x r=>exact CN hs
       rw[<-e1]at po;refine po.lnew rh ?_ hl;let e2:(((f7.map λx=>[(y1P x:Key)]).flatten).map kP)=f7.map PV.str:=Hf f7;rw[e2];show Iy.mpr rfl
      ·cases ez
     ·cases ez
   ·show po.elim
  ·split at po
   ·rename_i ys ev;split at po
    ·rename_i ae ek;let⟨hc,po⟩:=po.ite;unfold VS at ev;split at ev
     ·rename_i d hv;split at ev
      ·rename_i kvs hk;cases ev
       let⟨b,hb,hH⟩:=q0h hv;let⟨ks,hD,rk⟩:=rh.at' d b _ hb hk;let⟨bb,sh,hsh⟩:=zK hc.2;refine .inl ⟨a,ae,sh,bb,rfl,hc.1,hsh,.inr ⟨b,ks,hH,hD,?_,λH1 s1 l gn fc hl hp hs hr=>?_⟩⟩
       ·show OM rk ek
       ·rw[zJ hsh hp hs]at hr;show(post.weak yk (Kp.same s1) po).lnew (rh.same s1) (AF.mpr hr) hl
      ·cases ev
     ·cases ev
    ·show po.elim
   ·show po.elim
 ·show po.elim
end
open PySem
@[simp]theorem Zf{x:PV}:oJ x (.tup xs) h=b_:=(rfl)
@[simp]theorem Yb{x:PV}:oJ x (.str z) h=b_:=(rfl)
@[simp]theorem Zg{i:Int}{y:PV}:oJ (.int i) y h=b_:=by cases y <;> rfl
theorem QY{x:PV}(e:h[n]?=a_ (.lst xs)):oJ x (.ref n) h=b_:=by unfold oJ cO;simp[e]
@[simp]theorem ZV{y:PV}:vAt (.str z) y h=vIx (.str z) y h:=by unfold vAt;simp
@[simp]theorem ZW{x:PV}{i:Int}:vAt x (.int i) h=vIx x (.int i) h:=by unfold vAt;simp
@[simp]theorem QZ{x:PV}:AD x (.tup ys) h=vIn x (.tup ys) h:=by unfold AD;simp
@[simp]theorem K3{x:PV}:kK x (.tup ys) h=Ex x (.tup ys) h:=by unfold kK;simp
theorem R0{x:PV}(e:h[n]?=a_ (.lst xs)):AD x (.ref n) h=vIn x (.ref n) h:=by unfold AD;rw[QY e]
theorem Iz(e1:h[n]?=a_ (.lst (ae.map tP)))(h1:ae.length<64)(h2:yJ ae=true):
  rF [.ref n] h=.ok (.ref h.length) (h++[.lst ((oK ae).map tP)]):=by
 let e3:cB h n=a_ (ae.map tP):=by simp[cB,e1]
 simp only[rF,e3,QW,EF];rw[if_pos ⟨h1,h2⟩]
theorem R1{κ:Type}[q0P 0](kvs:z_ (κ×PV))(a:κ)(p:PV):(lW kvs a p).length<=kvs.length+1:=by
 unfold lW;split
 ·rw[yh];omega
 ·simp
def tO(h:PH)(d:Nat):A_ (z_ PV):=match h[d]? with
 |some (.dK kvs)=>a_ (kvs.map (·.2))
 |some (.dD kvs)=>a_ (kvs.map (·.2))
 |_=>b_
theorem EG{K:Type}[DecidableEq K]{knd:KeyKind prog w K}{es:z_ y0A}{kvs:z_ (K×r_)}(h:Pairs knd es kvs):es.map (·.val)=kvs.map (·.2):=by
 apply y0D;intro i;rw[yy,yy];let hl:=h.length;by_cases hi:i<es.length
 ·let e1:es[i]?=a_ es[i]:=by simp[hi]
  let aw:i<kvs.length:=⋯;let e2:kvs[i]?=a_ (kvs[i].1,kvs[i].2):=by simp[aw]
  rw[e1,e2];show congrArg a_ (h.get? e1 e2).2
 ·rw[y0U ⋯,y0U ⋯];rfl
theorem K4{k:Nat}{d:Nat}{b:td}(c:q0j X)(I:Q_ s)(rh:K_ h)(hb:φ[d]?=a_ b)(e:tO h d=a_ xs):
  s.TypeIs (.ref b) "dict" /\ (b == y0o)=false/\xs.length<=yo/\∃oc es ep,P2 0=a_ oc/\oc.data=.dict es ep/\∃ws,G_ xs ws/\bH ws (es.toList.map (·.val)):=by
 unfold tO at e;split at e
 ·rename_i kvs hk;cases e
  let⟨ks,hH,rk⟩:=rh.at' d b _ hb hk;let⟨z,hd,vs,rel,dd⟩:=JB I.hok hH;refine⟨dd.typeIs,hd,by rw[yh,y0b rk];show z,?_⟩;let⟨oc,es,ep,g1,g2,g3,g4,g5,g6⟩:=dd;refine⟨oc,es,ep,g1,g3,ks.map (·.2),?_,?_⟩
  ·unfold RKv at rk;clear hk hH rel z
   induction rk with
   |nil=>trivial
   |cons q t ih=>exact⟨q.2,ih⟩
  ·rw[EG g5];clear hk hH g4 g5 g6 z;unfold KV at rel;clear rk
   induction rel with
   |nil=>exact .nil
   |cons q t ih=>exact .cons q.2 ih
 ·rename_i kvs hk;cases e
  let ht:cO h d=a_ kvs:=by unfold cO;rw[hk]
  let⟨⟨ks,ys,r,bu,hz,hm,dd⟩,_⟩:=vP I c.K c.w rh hb ht;let hlen:kvs.length=ys.length:=(y0b r).trans (y0b bu);refine⟨dd.typeIs,hm,by rw[yh,hlen];show hz,?_⟩;let⟨oc,es,ep,g1,g2,g3,g4,g5,g6⟩:=dd;refine⟨oc,es,ep,g1,g3,ks.map (·.2.2),?_,?_⟩
  ·unfold RKd at r;clear hk ht bu hlen
   induction r with
   |nil=>trivial
   |cons q t ih=>exact⟨q.2.2.2,ih⟩
  ·rw[g4,z7];clear hk ht r hlen hz g4 g5 g6
   induction bu with
   |nil=>exact .nil
   |cons q t ih=>exact .cons q.2.2 ih
 ·cases e
def K5:PV->z_ PV->PH->Rs PV:=λx ps h=>match x,ps with
 |.ref n,[]=>match tO h n with
  |some _=>.ok (.ref h.length) (h++[.vw 1 n])
  |none=>.bad
 |_,_=>.bad
theorem m_values{k:Nat}:MtG C k X "dict" lB "dict.values" K5:=λc=>⟨λP1 s σ H x xs v us Q I rx rs h=>by
 let⟨φ,h,p,ps,rh,rp,ju,po⟩:=h;unfold K5 at po;split at po
 ·rename_i n;split at po
  ·rename_i ys ey;let⟨a,rfl,ha⟩:=rp;have:xs=[]:=by cases xs <;> first|rfl|exact ju.elim
   subst this;cases rx
   cases rs
   let⟨hT,hm,_⟩:=K4 c I rh ha ey;refine y11 PySem.F.slot_dict_values hT PySem.F.entry_dict_values (PySem.F.args_dict_values_1 _) (Ia a hm) ⟨hT,?_⟩;let fr:H (e_ s)=b_:=I.fresh;refine⟨.ref (e_ s),_,I.laid (t':=s.toks) (o:=Ng 1 (e_ s) a) (λb u e=>yc _ e) (yg _) ?_,rfl,?_⟩
   ·show⟨⟨_,q0O 0,rfl,rfl⟩,⟨_,q0O 0⟩,λh1 h2 ⟨o,e,p⟩ k=>⟨o,k o e,p⟩⟩
   ·show po (φ++[(e_ s)]) (.ref _) _ (zy _ _) (Kp.new fr) (rh.new fr ⟨a,lZ (zy _ _) ha,bP⟩) ⟨_,rfl,by rw[<-rh.len];simp⟩
  ·show po.elim
 ·show po.elim,ED c⟩
def EH(h:PH)(n:Nat):A_ (z_ PV):=match h[n]? with
 |some (.vw 1 d)=>tO h d
 |_=>b_
variable{acc:q0l 0}
theorem R3{es:q1m 0}(h:ItemsOf (λi v=>∃e,es[i]?=a_ e/\v=e.val) acc es.size):acc.toList=es.toList.map (·.val):=by
 apply y0D;intro i;rw[yy,y0V,y0V];by_cases hi:i<acc.size
 ·let e1:acc[i]?=a_ acc[i]:=by simp[hi]
  let⟨e,h1,h2⟩:=h.2 i _ e1;rw[e1,h1,h2];rfl
 ·let aw:¬ i<es.size:=by rw[<-h.1];show hi
  rw[y0h ⋯,y0h ⋯];rfl
theorem Nx(e:h[n]?=a_ (.dK [])):cO h n=a_ []:=by simp[cO,e]
theorem AG(e:h[n]?=a_ (.dD kvs)):cO h n=a_ kvs:=by simp[cO,e]
open PySem.SeqAt PySem.W
def EI(l:z_ Nat):z_ Int:=l.map (λ(c:Nat)=>(c:Int)+2)++[1]
mutual
def enc:PV->z_ Int
 |.int i=>[i]
 |.str x=>EI x.cps.toList
 |.tup xs=>AH xs
 |_=>[]
def AH:z_ PV->z_ Int
 |[]=>[0]
 |x::xs=>1::(enc x++AH xs)
end
theorem xV(a:Nat)(l:z_ Nat):EI (a::l)=((a:Int)+2)::EI l:=rfl
theorem Ny:∀(a b:z_ Nat)(s t:z_ Int),a≠b->((EI a++s<EI b++t)↔a<b)
 |[],[],_,_,h=>(h rfl).elim
 |[],b::bs,s,t,_=>by
  rw[xV]
  change(1::s<((b:Int)+2)::(EI bs++t))↔_
  rw[y0e];constructor
  ·intro _;show List.nil_lt_cons _ _
  ·intro _;left;omega
 |a::as,[],s,t,_=>by
  rw[xV]
  change(((a:Int)+2)::(EI as++s)<1::t)↔_
  rw[y0e];constructor
  ·rintro(h|⟨h,_⟩) <;> omega
  ·intro h;show(List.not_lt_nil _ h).elim
 |a::as,b::bs,s,t,h=>by
  rw[xV,xV]
  change(((a:Int)+2)::(EI as++s)<((b:Int)+2)::(EI bs++t))↔_
  rw[y0e,y0e];by_cases e:a=b
  ·subst e;let h':as≠bs:=λz=>h (by rw[z]);let ih:=Ny as bs s t h';constructor
   ·rintro(h1|⟨_,h1⟩)
    ·omega
    ·show .inr ⟨rfl,ih.mp h1⟩
   ·rintro(h1|⟨_,h1⟩)
    ·omega
    ·show .inr ⟨rfl,ih.mpr h1⟩
  ·constructor
   ·rintro(h1|⟨h1,_⟩) <;> (left;omega)
   ·rintro(h1|⟨h1,_⟩)
    ·left;omega
    ·show(e h1).elim
theorem M4:∀(n:Nat)(x y:PV)(c:Bool)(s t:z_ Int),x≠y->ltP n x y=a_ c->((enc x++s<enc y++t)↔c=true):=by
 intro n;let one:∀(a b:Int)(c:Bool)(s t:z_ Int),PV.int a≠.int b->a_ (decide (a<b))=a_ c->(([a]++s < [b]++t)↔c=true):=λa b c s t h e=>by
  cases e
  let h':a≠b:=λz=>h (by rw[z])
  change(a::s<b::t)↔_
  rw[y0e,decide_eq_true_eq];constructor
  ·rintro(h1|⟨h1,_⟩)
   ·show h1
   ·show(h' h1).elim
  ·intro h1;show .inl h1
 let two:∀(a b:Str)(c:Bool)(s t:z_ Int),PV.str a≠.str b->a_ (decide (a.cps.toList<b.cps.toList))=a_ c->((EI a.cps.toList++s<EI b.cps.toList++t)↔c=true):=λa b c s t h e=>by
  cases e
  rw[Ny _ _ s t (λz=>h (by rw[Nd z])),decide_eq_true_eq]
 induction n with
 |zero=>intro x y c s t h e;cases x <;> cases y <;> first|exact one _ _ c s t h e|exact two _ _ c s t h e|(simp[ltP]at e)
 |succ n ih=>
  let lists:∀(xs ys:z_ PV)(c:Bool)(s t:z_ Int),xs≠ys->ltL (ltP n) xs ys=a_ c->((AH xs++s<AH ys++t)↔c=true):=by
   intro xs
   induction xs with
   |nil=>
    intro ys c s t h e;cases ys with
    |nil=>exact(h rfl).elim
    |cons y ys=>
     cases e
     change(0::s<1::((enc y++AH ys)++t))↔_
     rw[y0e];constructor
     ·intro _;rfl
     ·intro _;left;omega
   |cons x xs ihx=>
    intro ys c s t h e;cases ys with
    |nil=>
     cases e
     change(1::((enc x++AH xs)++s)<0::t)↔_
     rw[y0e];constructor
     ·rintro(h1|⟨h1,_⟩) <;> omega
     ·intro h1;cases h1
    |cons y ys=>
     change(1::((enc x++AH xs)++s)<1::((enc y++AH ys)++t))↔_
     let e':(if x=y then ltL (ltP n) xs ys else ltP n x y)=a_ c:=e;rw[y0e,y2r,y2r];let key:(enc x++(AH xs++s)<enc y++(AH ys++t))↔c=true:=by
      by_cases xy:x=y
      ·rw[if_pos xy]at e';subst xy;have:=ihx ys c s t (λz=>h (by rw[z])) e';rw[<-this];let cut:∀l:z_ Int,(l++(AH xs++s)<l++(AH ys++t))↔(AH xs++s<AH ys++t):=λl=>by
        induction l with
        |nil=>exact Iff.rfl
        |cons a l ih=>
         change(a::(l++_)<a::(l++_))↔_
         rw[y0e,ih];constructor
         ·rintro(h1|⟨_,h1⟩)
          ·omega
          ·show h1
         ·intro h1;show .inr ⟨rfl,h1⟩
       show cut _
      ·rw[if_neg xy]at e';show ih x y c _ _ xy e'
     rw[key];constructor
     ·rintro(h1|⟨_,h1⟩)
      ·omega
      ·show h1
     ·intro h1;show .inr ⟨rfl,h1⟩
  intro x y c s t h e;cases x <;> cases y <;> first|exact one _ _ c s t h e|exact two _ _ c s t h e|(simp[ltP]at e;done)|exact lists _ _ c s t (λz=>h (by rw[z])) e
def ltN(x y:PV):Bool:=decide (enc x<enc y)
theorem K6{f:PV->PV->A_ Bool}:∀xs:z_ PV,ltL f xs xs=a_ false
 |[]=>rfl
 |x::xs=>by
  change(if x=x then ltL f xs xs else f x x)=a_ false
  rw[q0k 0];show K6 xs
theorem R4{x:PV}{c:Bool}(h:ltP n x x=a_ c):c=false:=by
 let st:∀{z:Str}{c:Bool},a_ (decide (z.cps.toList<z.cps.toList))=a_ c->c=false:=λ{z c} e=>by
  cases e
  show decide_eq_false (List.lt_irrefl _)
 let it:∀{z:Int}{c:Bool},a_ (decide (z<z))=a_ c->c=false:=λ{z c} e=>by
  cases e
  show decide_eq_false (Int.lt_irrefl _)
 cases n with
 |zero=>
  cases x with
  |int i=>exact it h
  |str i=>exact st h
  |_=>simp[ltP]at h
 |succ n=>
  cases x with
  |tup xs=>
   let h':ltL (ltP n) xs xs=a_ c:=h;rw[K6]at h';cases h'
   rfl
  |int i=>exact it h
  |str i=>exact st h
  |_=>simp[ltP]at h
theorem Uu(x:PV):ltN x x=false:=decide_eq_false (List.lt_irrefl _)
theorem Xg{x y:PV}{c:Bool}(h:ltP n x y=a_ c):ltN x y=c:=by
 by_cases e:x=y
 ·subst e;rw[R4 h];show Uu x
 ·have:=M4 n x y c [] [] e h;rw[y1f,y1f]at this;unfold ltN;cases c with
  |true=>exact decide_eq_true (this.mpr rfl)
  |false=>exact decide_eq_false λz=>by cases this.mp z
theorem Uv{x y:PV}{c:Bool}(h:ltP n x y=a_ c)(e:enc x=enc y):x=y:=by
 by_cases xy:x=y
 ·show xy
 ·let h1:=M4 n x y c [0] [1] xy h;let h2:=M4 n x y c [1] [0] xy h;rw[e]at h1 h2;let cut:∀(l s t:z_ Int),(l++s<l++t)↔(s<t):=λl s t=>by
   induction l with
   |nil=>exact Iff.rfl
   |cons a l ih=>
    change(a::(l++_)<a::(l++_))↔_
    rw[y0e,ih];constructor
    ·rintro(h1|⟨_,h1⟩)
     ·omega
     ·show h1
    ·intro h1;show .inr ⟨rfl,h1⟩
  rw[cut]at h1 h2;let t1:([0]:z_ Int) < [1]:=by decide
  let t2:¬ ([1]:z_ Int) < [0]:=by decide
  show(t2 (h2.mpr (h1.mp t1))).elim
theorem R5{a b c:PV}(h1:ltN b a=false)(h2:ltN c b=false):ltN c a=false:=decide_eq_false (y2a.mpr (List.le_trans (y2a.mp (of_decide_eq_false h1)) (y2a.mp (of_decide_eq_false h2))))
theorem R6{a b:PV}(h:ltN a b=true):ltN b a=false:=decide_eq_false (List.lt_asymm (of_decide_eq_true h))
theorem Xh{a b:PV}(h1:ltN a b=false)(h2:ltN b a=false):enc a=enc b:=List.le_antisymm (y2a.mp (of_decide_eq_false h2)) (y2a.mp (of_decide_eq_false h1))
section
variable{α:Type}(key:α->PV)
def EJ(x:α):z_ α->z_ α
 |[]=>[x]
 |y::ys=>if ltN (key y) (key x) then y::EJ x ys else x::y::ys
def sM:z_ α->z_ α
 |[]=>[]
 |x::xs=>EJ key x (sM xs)
theorem BA(x:α):∀ys,(EJ key x ys).Perm (x::ys)
 |[]=>.refl _
 |y::ys=>by
  unfold EJ;split
  ·show((BA x ys).cons y).trans (.swap x y ys)
  ·show .refl _
theorem tQ:∀xs,(sM key xs).Perm xs
 |[]=>.refl _
 |x::xs=>(BA key x _).trans ((tQ xs).cons x)
theorem CO(x:α):∀{ys:z_ α},ys.Pairwise (λa b=>ltN (key b) (key a)=false)->(EJ key x ys).Pairwise (λa b=>ltN (key b) (key a)=false)
 |[],_=>y1t _ _
 |y::ys,h=>by
  unfold EJ;rw[z0]at h;split
  ·rename_i ak;rw[z0];refine⟨λz hz=>?_,CO x h.2⟩;rcases yr.mp ((BA key x ys).mem_iff.mp hz) with rfl|hz
   ·show R6 ak
   ·show h.1 z hz
  ·rename_i ak;let m6:ltN (key y) (key x)=false:=by simpa using ak
   rw[z0];refine⟨λz hz=>?_,z0.mpr h⟩;rcases yr.mp hz with rfl|hz
   ·show m6
   ·show R5 m6 (h.1 z hz)
theorem tR:∀xs:z_ α,(sM key xs).Pairwise (λa b=>ltN (key b) (key a)=false)
 |[]=>.nil
 |x::xs=>CO key x (tR xs)
theorem Hg{xs ys:z_ α}(inj:∀a∈xs,∀b∈xs,enc (key a)=enc (key b)->a=b)(hp:ys.Perm xs)(h:ys.Pairwise (λa b=>ltN (key b) (key a)=false)):ys=sM key xs:=by refine y1Y (le:=λa b=>ltN (key b) (key a)=false) (λa b ha hb h1 h2=>?_) h (tR key xs) (hp.trans (tQ key xs).symm);show inj a (hp.mem_iff.mp ha) b ((tQ key xs).mem_iff.mp hb) (Xh h2 h1)
end
theorem M5:∀{xs:z_ PV}{ds:z_ D},PV.ds xs=a_ ds->xs.length=ds.length
 |[],ds,h=>by cases h;rfl
 |x::xs,ds,h=>by let⟨d,r,_,h2,rfl⟩:=iE h;simp[M5 h2]
theorem R7:∀{xs:z_ PV}{ds:z_ D}{j:Nat}{d:D},PV.ds xs=a_ ds->ds[j]?=a_ d->∃x,xs[j]?=a_ x/\x.d=a_ d
 |[],ds,j,d,h,e=>by cases h;simp at e
 |x::xs,ds,j,d,h,e=>by
  let⟨d',r,h1,h2,rfl⟩:=iE h;cases j with
  |zero=>
   have:d'=d:=by simpa using e
   show⟨x,rfl,by rw[h1,this]⟩
  |succ j=>
   let⟨y,a,b⟩:=R7 (j:=j) h2 (k_ e);show⟨y,k_ a,b⟩
theorem vQ:∀(n:Nat)(p:PV),p.ky n=true->p.pl n=true:=by
 intro n
 induction n with
 |zero=>intro p h;cases p <;> first|rfl|cases h
 |succ n ih=>
  intro p h;cases p with
  |tup xs=>
   change xs.all (PV.pl n)=true
   rw[y1];show λy hy=>ih y (y1.mp (show xs.all (PV.ky n)=true from h) y hy)
  |_=>first|rfl|cases h
theorem Xi:∀(n:Nat){A:u_}{s:s_}{p q:PV}{v u:r_}{b:Bool},p.ky n=true->q.ky n=true->A.units+n<cLine->q1r p v->q1r q u->ltP n p q=a_ b->QO A s v u b:=by
 intro n;let one:∀{A:u_}{s:s_}{i j:Int}{v u:r_}{b:Bool},q1r (.int i) v->q1r (.int j) u->a_ (decide (i<j))=a_ b->QO A s v u b:=λ{A s i j v u b} r r' e=>by
  let⟨t,rfl⟩:=r;let⟨t',rfl⟩:=r';cases e
  show λprog w E Q q=>(PyProof.Rows.lt_int q:C_ (zc .Lt _ _) Q E s)
 let two:∀{A:u_}{s:s_}{i j:Str}{v u:r_}{b:Bool},q1r (.str i) v->q1r (.str j) u->a_ (decide (i.cps.toList<j.cps.toList))=a_ b->QO A s v u b:=λ{A s i j v u b} r r' e=>by
  let⟨t,rfl⟩:=r;let⟨t',rfl⟩:=r';cases e
  show λprog w E Q q=>(PyProof.Rows.lt_str q:C_ (zc .Lt _ _) Q E s)
 induction n with
 |zero=>
  intro A s p q v u b hp hq hu r r' e;cases p with
  |int i=>
   cases q with
   |int j=>exact one r r' e
   |_=>simp[ltP]at e
  |str i=>
   cases q with
   |str j=>exact two r r' e
   |_=>simp[ltP]at e
  |_=>cases hp
 |succ n ih=>
  intro A s p q v u b hp hq hu r r' e;cases p with
  |int i=>
   cases q with
   |int j=>exact one r r' e
   |_=>simp[ltP]at e
  |str i=>
   cases q with
   |str j=>exact two r r' e
   |_=>simp[ltP]at e
  |tup ps=>
   cases q with
   |tup qs=>
    let⟨a,its,rfl,p1,rs⟩:=r;let⟨a',its',rfl,p2,c9⟩:=r';let kp:∀z∈ps,z.ky n=true:=y1.mp hp;let kq:∀z∈qs,z.ky n=true:=y1.mp hq;let⟨d,hd,_⟩:=tN (n+1) _ (vQ _ _ hp);let⟨d',dr,_⟩:=tN (n+1) _ (vQ _ _ hq);let ak:=VQ (n+1) _ _ d d' (vQ _ _ hp) (vQ _ _ hq) hd dr;rw[e]at ak;let⟨ds,g1,rfl⟩:=dQ hd;let⟨es,g2,rfl⟩:=dQ dr;let hb':zD ds es=a_ b:=by simpa[ltD] using ak
    let⟨⟨cls,dd,data,sl⟩,ho,hc,m,gf⟩:=id p1;let⟨⟨j3,ip,data2,iw⟩,fe,cx,m2,hd2⟩:=id p2;simp only at hc gf cx hd2;subst hc gf cx hd2;intro prog w E Q iu;refine richCompare_meets_room (op:=.Lt) ⟨_,ho,rfl⟩ ⟨_,fe,rfl⟩ PySem.F.slot_tuple_lt PySem.F.entry_tuple_lt (PySem.F.args_tuple_lt_2 _ _) (AC a a' its.toArray its'.toArray m m2 dd ip sl iw ds es b hb')
     ⟨ho,fe,⟨?_,?_,?_⟩,show Value.bool b≠Value.notImplemented/\Q (.bool b) s from⟨(λx=>nomatch x),iu⟩⟩ ⋯
    ·let l1:=rs.length;let l2:=M5 g1
     change its.length=ds.length
     omega
    ·let l1:=c9.length;let l2:=M5 g2
     change its'.length=es.length
     omega
    ·intro j v u d e h1 h2 h3 h4;let⟨x,hx,ex⟩:=R7 g1 h3;let⟨y,hy,ey⟩:=R7 g2 h4;let⟨v',hv,rv⟩:=rs.at hx;let⟨u',hu',ru⟩:=c9.at hy;let e1:v=v':=by have:its[j]?=a_ v:=h1;rw[hv]at this;show(yx this).symm
     let e2:u=u':=by have:its'[j]?=a_ u:=h2;rw[hu']at this;show(yx this).symm
     subst e1 e2;let kx:=kp x (zi hx);let ky:=kq y (zi hy);let wj:A.in1.units+n<cLine:=by change A.units+1+n<cLine;omega
     refine⟨?_,λ_ b hb=>?_⟩
     ·rw[JV n x y d e (vQ _ _ kx) (vQ _ _ ky) ex ey];show LS kx ky wj rv ru
     ·rw[VQ n x y d e (vQ _ _ kx) (vQ _ _ ky) ex ey]at hb;show ih kx ky wj rv ru hb
   |_=>simp[ltP]at e
  |_=>cases hp
section
def R8:z_ PV->Prop
 |.tup _::_=>False
 |_=>True
theorem Hh{b fin:Bool}{n:Nat}{Q:jn Bool}(hu:A.units+n<cLine):∀(ps qs:z_ PV)(us ws:z_ r_)(i:Nat)(c:Bool),(∀p∈ps,p.ky n=true)->(∀q∈qs,q.ky n=true)->HRs s.heap ps us->HRs s.heap qs ws->ltL (ltP n) ps qs=a_ c->((b&&i == 0)=true->R8 ps)->fin=decide (ps.length<qs.length)->Q c s->KatLex prog w A b fin Q (us.zip ws) i s
 |[],[],[],[],i,c,_,_,_,_,hc,_,hf,h=>by
  cases hc
  rw[hf];show h
 |[],q::qs,[],u::ws,i,c,_,_,_,_,hc,_,hf,h=>by
  cases hc
  rw[hf];show h
 |p::ps,[],u::us,[],i,c,_,_,_,_,hc,_,hf,h=>by
  cases hc
  rw[hf];show h
 |p::ps,q::qs,u::us,v::ws,i,c,kp,kq,rs,c9,hc,hn,hf,h=>by
  rw[y2h];let aa:(if p=q then ltL (ltP n) ps qs else ltP n p q)=a_ c:=hc;let k1:=kp p ye;let k2:=kq q ye;refine kat_cons (LS k1 k2 hu rs.1 c9.1 prog w _ _ ?_);by_cases pq:p=q
  ·rw[if_pos pq]at aa;rw[decide_eq_true pq];refine kat_yes (Hh hu ps qs us ws (i+1) c (λz hz=>kp z (yd _ hz)) (λz hz=>kq z (yd _ hz)) rs.2 c9.2 aa (λz=>?_) ?_ h)
   ·cases b <;> simp at z
   ·rw[hf];simp
  ·rw[if_neg pq]at aa;rw[decide_eq_false pq];refine kat_no ?_;let gen:C_ (oneLt' false u v) Q (λ_ _=>False) s:=kat_one _ _ (Xi n k1 k2 hu rs.1 c9.1 aa prog w _ (PySem.W.BoolBack Q) h);cases hb:(b&&i == 0) with
   |false=>exact gen
   |true=>
    let mz:=hn hb;cases p with
    |tup _=>exact mz.elim
    |int a=>
     cases q with
     |int d=>
      let⟨t,rfl⟩:=rs.1;let⟨t',rfl⟩:=c9.1;let e:decide (a<d)=c:=by cases n <;> exact yx aa
      rw[<-e]at h;show oneLt_int h
     |_=>cases n <;> simp[ltP]at aa
    |str a=>
     cases q with
     |str d=>
      let⟨t,rfl⟩:=rs.1;let⟨t',rfl⟩:=c9.1;let e:decide (a.cps.toList<d.cps.toList)=c:=by cases n <;> exact yx aa
      rw[<-e]at h;show oneLt_str h
     |_=>cases n <;> simp[ltP]at aa
    |_=>exact rs.1.elim
 |[],_,_::_,_,_,_,_,_,r,_,_,_,_,_=>r.elim
 |_::_,_,[],_,_,_,_,_,r,_,_,_,_,_=>r.elim
 |_,[],_,_::_,_,_,_,_,_,r,_,_,_,_=>r.elim
 |_,_::_,_,[],_,_,_,_,_,r,_,_,_,_=>r.elim
theorem R9{q:PV}{v:r_}{c:Bool}{Q:jn Bool}(hu:A.units+n<cLine)(kp:p.ky (n+1)=true)(kq:q.ky (n+1)=true)(tp:∃ps,p=.tup ps/\(b=true->R8 ps))(tq:∃qs,q=.tup qs)(r:q1r p v)(r':q1r q u)(hc:ltP (n+1) p q=a_ c)(h:Q c s):
  C_ (keyLt' (tuples' b) v u) Q E s:=by
 let⟨ps,rfl,hn⟩:=tp;let⟨qs,rfl⟩:=tq;let⟨a,its,rfl,⟨ox,uj,_,m,dx⟩,rs⟩:=r;let⟨a',its',rfl,⟨oy,uz,_,m',dy⟩,c9⟩:=r';refine kat_lt uj dx uz dy ?_;let l1:=rs.length;let l2:=c9.length;let e1:decide (its.toArray.size<its'.toArray.size)=decide (ps.length<qs.length):=by simp[l1,l2]
 rw[e1];show Hh hu ps qs its its' 0 c (y1.mp kp) (y1.mp kq) rs c9 hc (λz=>hn (by cases b <;> simp at z;rfl)) rfl h
def fk:PV->Nat
 |.tup (.int _::_)=>0
 |.tup (.str _::_)=>1
 |.tup (.tup _::_)=>2
 |_=>3
def fkT(m:Nat):r_:=.type (if m=0 then "int" else if m=1 then "str" else "tuple")
theorem EK{m:Nat}(hm:m<3):∀{ps:z_ PV}{vs:z_ r_},HRs s.heap ps vs->(∀p∈ps,fk p=m)->∃fs:z_ r_,fs.length=vs.length/\KatTups s.heap vs fs/\∀f∈fs,Looks (model prog w) s.heap (typeOf f) (fkT m)
 |[],[],_,_=>⟨[],rfl,KatTups.nil,λ_ hf=>nomatch hf⟩
 |p::ps,v::vs,r,hs=>by
  let⟨fs,hl,ht,hT⟩:=EK hm r.2 λx hx=>hs x (yd _ hx);let h0:=hs p ye;let r1:=r.1;cases p with
  |tup xs=>
   let⟨a,its,rfl,⟨o,ho,hc,n,hd⟩,rx⟩:=r1;cases xs with
   |nil=>simp[fk]at h0;omega
   |cons x xs=>
    cases its with
    |nil=>exact rx.elim
    |cons f its=>
     refine⟨f::fs,by simp[hl],KatTups.cons ho hc hd (by simp) ht,λg hg=>?_⟩;rcases yr.mp hg with rfl|hg
     ·let rf:=rx.1;cases x with
      |int i=>let⟨t,rfl⟩:=rf;have:m=0:=h0.symm;subst this;show Looks.now
      |str i=>let⟨t,rfl⟩:=rf;have:m=1:=h0.symm;subst this;show Looks.now
      |tup i=>let⟨a',its',rfl,⟨o',dq,aa,n',dr⟩,_⟩:=rf;have:m=2:=h0.symm;subst this;have:Looks (model prog w) s.heap (typeOf (.ref a')) o'.cls:=(Looks.ld dq).andThen .now;rw[aa]at this;show this
      |_=>exact rf.elim
     ·show hT g hg
  |_=>simp[fk]at h0;omega
 |[],_::_,r,_=>r.elim
 |_::_,[],r,_=>r.elim
theorem Uw{m:Nat}(hm:m<3){ps:z_ PV}{vs:z_ r_}{Q:jn SortKind}(r:HRs s.heap ps vs)(hs:∀p∈ps,fk p=m)(h0:0<vs.length)(h:Q (tuples' (decide (m≠2))) s):C_ (keyKind' vs.toArray) Q E s:=by
 let⟨fs,hl,ht,hT⟩:=EK (prog:=prog) (w:=w) hm r hs;refine kat_kind (T:=fkT m) ht ⋯ hT ?_ ?_
 ·match m,hm with
  |0,_=>rfl
  |1,_=>rfl
  |2,_=>rfl
 ·have:((fkT m) != y1H "tuple")=decide (m≠2):=by
   match m,hm with
   |0,_=>rfl
   |1,_=>rfl
   |2,_=>rfl
  rw[this];show h
end
structure OkN(m:Nat)(xs:z_ PV):Prop where
 m3:m<3
 ky:∀x∈xs,x.ky 20=true
 fk:∀x∈xs,fk x=m
 lt:∀x∈xs,∀y∈xs,(ltP 20 x y).isSome=true
theorem OkN.inj{m:Nat}(h:OkN m xs):∀a∈xs,∀b∈xs,enc a=enc b->a=b:=λa ha b hb e=>by let⟨c,hc⟩:=y1l.mp (h.lt a ha b hb);show Uv hc e
theorem Ra{m:Nat}(hm:m<3)(h:fk p=m):∃ps,p=.tup ps/\(decide (m≠2)=true->R8 ps):=by
 cases p with
 |tup xs=>
  refine⟨xs,rfl,λhd=>?_⟩;let dr:m≠2:=of_decide_eq_true hd;cases xs with
  |nil=>trivial
  |cons x xs=>cases x <;> first|trivial|(exact(dr h.symm).elim)
 |_=>simp[fk]at h;omega
theorem HRs.getD{h:v_}{ps:z_ PV}{vs:z_ r_}(r:HRs h ps vs)(hi:i<ps.length):HR h (ps.getD i .non) (q0R 0):=by
 let g:ps[i]?=a_ (ps.getD i .non):=by simp[hi]
 let⟨v,hv,hr⟩:=r.at g;let e:q0R 0=v:=by simp[y0F,hv]
 rw[e];show hr
abbrev KP:=z_ Key×PV
def CP(x:KP):z_ KP->z_ KP
 |[]=>[x]
 |y::ys=>if fE y.1 x.1=true then y::CP x ys else x::y::ys
def qD:z_ KP->z_ KP
 |[]=>[]
 |x::xs=>CP x (qD xs)
theorem zL(x:KP):∀ys,(CP x ys).Perm (x::ys)
 |[]=>.refl _
 |y::ys=>by
  unfold CP;split
  ·show((zL x ys).cons y).trans (.swap x y ys)
  ·show .refl _
theorem rG:∀xs,(qD xs).Perm xs
 |[]=>.refl _
 |x::xs=>(zL x _).trans ((rG xs).cons x)
theorem AI{S:z_ Bool}{x:KP}(hx:shape x.1=S):∀{ys:z_ KP},(∀y∈ys,shape y.1=S)->ys.Pairwise (λa b=>fE b.1 a.1=false)->(CP x ys).Pairwise (λa b=>fE b.1 a.1=false)
 |[],_,_=>y1t _ _
 |y::ys,hs,hp=>by
  let hy:=hs y ye;let d0:=λz hz=>hs z (yd _ hz);rw[z0]at hp;unfold CP;split
  ·rename_i h;rw[z0];refine⟨λz hz=>?_,AI hx d0 hp.2⟩;rcases yr.mp ((zL x ys).mem_iff.mp hz) with rfl|hz
   ·show Ap h
   ·show hp.1 z hz
  ·rename_i h;let h':fE y.1 x.1=false:=by simpa using h
   rw[z0];refine⟨λz hz=>?_,z0.mpr hp⟩;rcases yr.mp hz with rfl|hz
   ·show h'
   ·show xK (hx.trans hy.symm) (hy.trans (d0 z hz).symm) h' (hp.1 z hz)
theorem rW{S:z_ Bool}:∀{xs:z_ KP},(∀y∈xs,shape y.1=S)->(qD xs).Pairwise (λa b=>fE b.1 a.1=false)
 |[],_=>.nil
 |x::xs,hs=>AI (hs x ye) (λy hy=>hs y (yd _ ((rG xs).mem_iff.mp hy))) (rW λy hy=>hs y (yd _ hy))
theorem Hi{α β:Type}:∀{l:z_ (α×β)},(l.map (·.1)).Nodup->∀{a b:α×β},a∈l->b∈l->a.1=b.1->a=b
 |[],_,_,_,h,_,_=>nomatch h
 |x::l,nd,a,b,ha,hb,e=>by
  rw[yq,y1g]at nd;rcases yr.mp ha with rfl|ha'
  ·rcases yr.mp hb with rfl|hb'
   ·rfl
   ·show(nd.1 (y6.mpr ⟨b,hb',e.symm⟩)).elim
  ·rcases yr.mp hb with rfl|hb'
   ·show(nd.1 (y6.mpr ⟨a,ha',e⟩)).elim
   ·show Hi nd.2 ha' hb' e
theorem EL{xs ys:z_ KP}(hs:∀y∈xs,shape y.1=S)(nd:(xs.map (·.1)).Nodup)(hp:ys.Perm xs)(h:ys.Pairwise (λa b=>fE b.1 a.1=false)):ys=qD xs:=by refine y1Y (le:=λa b=>fE b.1 a.1=false) (λa b ha hb h1 h2=>?_) h (rW hs) (hp.trans (rG xs).symm);let ha':=hp.mem_iff.mp ha;let hb':=(rG xs).mem_iff.mp hb;show Hi nd ha' hb' (Aq ((hs a ha').trans (hs b hb').symm) h2 h1)
open Classical in
noncomputable def sortBy(b:Bool)(ks ys:z_ PV):A_ (z_ PV):=match uW ks with
 |some ae=>if ae.length<64/\ae.length=ys.length/\yJ ae=true/\ae.Nodup then a_ ((y2y b (qD (ae.zip ys))).map (·.2)) else b_
 |none=>b_
theorem ON(h1:ae.length<64)(h2:ae.length=ys.length)(h3:yJ ae=true)(h4:ae.Nodup):sortBy b (ae.map tP) ys=a_ ((y2y b (qD (ae.zip ys))).map (·.2)):=by unfold sortBy;rw[EF];show if_pos ⟨h1,h2,h3,h4⟩
noncomputable def rH(f:Fn)(b:Bool)(ys:z_ PV):z_ PV->z_ PV->PH->Rs PV
 |[],ks,h=>match sortBy b ks ys with
  |some zs=>.ok (.ref h.length) (h++[.lst zs])
  |none=>.bad
 |x::xs,ks,h=>(f [x] h).bind λk h1=>rH f b ys xs (ks++[k]) h1
def rX(x:PV)(h:PH):A_ (z_ PV):=match x with
 |.ref n=>match cB h n with
  |some ys=>a_ ys
  |none=>EH h n
 |.fl ys=>a_ ys
 |_=>b_
noncomputable def tS(f:Fn)(b:Bool)(x:PV)(h:PH):Rs PV:=match rX x h with
 |some ys=>if ys.length<64 then rH f b ys ys [] h else .bad
 |none=>.bad
noncomputable def zM(f:Fn)(b:Bool)(me:Me):Me:=λδ h=>(me δ h).bind λx h1=>tS f b x h1
theorem RVs.pick(r:G_ xs vs):∀{p:z_ Nat},(∀i∈p,i<xs.length)->G_ (p.map λi=>xs.getD i .non) (p.map λi=>vs.getD i .non)
 |[],_=>trivial
 |i::p,h=>by
  let hi:=h i ye;let g:xs[i]?=a_ (xs.getD i .non):=by simp[hi]
  let⟨v,hv,hr⟩:=r.at g;let e:vs.getD i .non=v:=by simp[y0F,hv]
  refine⟨?_,RVs.pick r λj hj=>h j (yd _ hj)⟩
  change E_ (xs.getD i .non) (vs.getD i .non)
  rw[e];show hr
theorem K7(I:Q_ s)(ha:(e_ s)<=a):X.s₀.heap.objs.size<=a/\a≠X.env.locals/\(∀x c,S_ 0=a_ c->c≠a)/\(∀p∈X.pn++P1,p.1≠a)/\a∉X.fs:=by
 refine⟨ze I.sz ha,y0x (y3 I.lt ha),λx c e z=>?_,λp hp z=>?_,I.nofs ha⟩
 ·let⟨v,o,ho,_⟩:=I.cell x c e;rw[z]at ho;show absurd (y3 (yj ho) ha) (y0P _)
 ·let ho:=(I.pin p hp).1;rw[z]at ho;show absurd (y3 (yj ho) ha) (y0P _)
theorem lG{its:q0l 0}{e:Nat}:∀v,(seqObj "list" its e).data≠.cell v:=λv z=>q0N 0
theorem Inv.adopt{d:td}{o:HO}(I:Q_ s)(ha:H a=b_)(hd:H d=b_)(fa:X.s₀.heap.objs.size<=a/\a≠X.env.locals/\(∀x c,S_ 0=a_ c->c≠a)/\(∀p∈X.pn++P1,p.1≠a)/\a∉X.fs)(fd:X.s₀.heap.objs.size<=d/\d≠X.env.locals/\(∀x c,S_ 0=a_ c->c≠d)/\(∀p∈X.pn++P1,p.1≠d)/\d∉X.fs)(kp:∀x u,x≠a->x≠d->s.heap.get? x=a_ u->h'.get? x=a_ u)(new:q0x (Z_ a o) h' a o):j_ (Z_ a o) {s with heap:=h'}:=by
 let na:∀x u,H x=a_ u->x≠a:=λx u e z=>by rw[z,ha]at e;cases e
 let nd:∀x u,H x=a_ u->x≠d:=λx u e z=>by rw[z,hd]at e;cases e
 refine I.call' (s':={s with heap:=h'}) (ch:=[a,d]) rfl ⟨λb u q n _ hx=>?_,λb u q n _ hx=>⟨u.slots,?_⟩,λb u q n hx=>?_,λb u q hx=>⟨u,?_⟩,λb xs q=>?_,λb u xs q=>?_,λb ps q=>⟨#[],?_⟩⟩ (λb u e=>?_) I.bare λb hb=>?_
 ·show kp b u (λz=>hx (by simp[z])) (λz=>hx (by simp[z])) q
 ·show kp b u (λz=>hx (by simp[z])) (λz=>hx (by simp[z])) q
 ·rw[bA (λz=>hx (by simp[z]))];show n
 ·show kp b u (λz=>hx (by simp[z])) (λz=>hx (by simp[z])) q
 ·rw[bA (na _ _ q)];show q
 ·rw[bA (na _ _ q)];show q
 ·rw[bA (na _ _ q),q];simp
 ·by_cases hb:b=a
  ·subst hb;rw[bP]at e;cases e;show new
  ·rw[bA hb]at e;refine(I.hok b u e).stay (λc v hc q=>kp c v ?_ ?_ q) (λc q=>by rw[bA (na _ _ q)];show q) λc xs q=>by rw[bA (na _ _ q)];show q
   ·rcases hc with z|z
    ·rw[z];show hb
    ·show na _ _ z
   ·rcases hc with z|z
    ·rw[z];show nd _ _ e
    ·show nd _ _ z
 ·rcases yr.mp hb with rfl|hb
  ·show⟨.inr fa.1,fa.2.1,fa.2.2.1,fa.2.2.2.1⟩
  ·rw[y0.mp hb];show⟨.inr fd.1,fd.2.1,fd.2.2.1,fd.2.2.2.1⟩
def Xj(C:MC)(X:Cx)(P1:gV 0)(σ:St)(φ:z_ td)(H:Hp)(f:Fn)(b:Bool)(ys:z_ PV)(Q:VK)(a z:td)(kS:td)(e1:Nat)(ks:z_ r_)(e:Nat)(s':s_):Prop:=z<kS/\∃H' φ' h' zs ps,Inv X (P1++[(kS,seqObj "list" ks.toArray e),(a,seqObj "list" #[] e1)]) σ H' s'/\φ<+:φ'/\Kp H H'/\q0u h'/\bH zs ks/\RVs C φ' H' ps zs/\post C φ' H' (rH f b ys (ys.drop ks.length) ps h') Q
variable{A':u_}{pn:z_ Str}
theorem Rb{k:Nat}{q:td}{f:Fn}{us:z_ V}{Q:VK}(c:q0j X)(D:Def C.K X.mg x st q fd pn)(G:N_ q fd pn (spM C 1 f))(hj:j+2<=k)(ry:G_ ys us)(rv:bH us its)(eA:A'=X.A.in1.in1)(fr:∀kS,a<=kS->X.s₀.heap.objs.size<=kS/\kS≠X.env.locals/\(∀x c,S_ 0=a_ c->c≠kS)/\(∀p∈X.pn++P1,p.1≠kS)/\kS∉X.fs)(kS:td)(e1:Nat)(ks:z_ r_)(e:Nat)(s':s_)(y:r_)(hy:its[ks.length]?=a_ y)(hJ:Xj C X P1 σ φ H f b ys Q a a kS e1 ks e s'):
  wpAny (g_ X) A' (call (.ref q) [y]) (λv cj=>cj.heap.get? kS=a_ (seqObj "list" ks.toArray e)/\∀(h':v_) e',y1w kS cj.heap h'->h'.get? kS=a_ (seqObj "list" (ks++[v]).toArray e')->Xj C X P1 σ φ H f b ys Q a a kS e1 (ks++[v]) e' { cj with heap:=h'}) (λ_ _=>False) s':=by
 subst eA;let⟨hz,H',φ',h',zs,ps,I,pp,tt,rh,rz,rp,po⟩:=hJ;let ak:ks.length<its.length:=(xt.mp hy).1;let oj:us.length=its.length:=rv.length;let ot:ys.length=us.length:=ry.length;let gy:ys[ks.length]?=a_ (ys[ks.length]'⋯):=by simp
 let⟨u,hu,ru⟩:=ry.at gy;let⟨y',gp,sy⟩:=rv.get hu;rw[hy]at gp;cases gp
 let hd:ys.drop ks.length=ys[ks.length]'⋯::ys.drop (ks.length+1):=drop_cons gy;rw[hd]at po;let oh:=c.K;let G':L_ CX0 j q fd pn (spM C 1 f):=by rw[oh];show G
 let D':Def X.K X.mg x st q fd pn:=by rw[oh];show D
 let o1:spM C 1 f [u] H' (λv H2=>∃φ2 p h2,φ'<+:φ2/\Kp H' H2/\RH C φ2 H2 h2/\RV C φ2 H2 p v/\post C φ2 H2 (rH f b ys (ys.drop (ks.length+1)) (ps++[p]) h2) Q) E0:=⟨φ',h',[ys[ks.length]'⋯],rh,⟨ru.mono pp tt,trivial⟩,rfl,post.bind po⟩;let hl:([y]:z_ r_).length=pn.length:=G'.len _ _ _ _ o1;refine wpAny_call (y2C (G'.run X.A.in1.in1 X.stack s' H' ⟨[y],[]⟩ [y] [u] _ E0 ((c.room.mono hj).in1.in1) I.env0.in1.in1 (by
  have:=D'.bd s' [y] I.kIn (k_ hl)
  simpa using this) (.cons sy .nil) o1) λr s2 hq=>?_)
 cases r with
 |error e=>exact hq.elim
 |ok fl=>
  cases fl with
  |next=>exact y0I hq
  |brk=>exact y0I hq
  |cont=>exact y0I hq
  |ret v=>
   let⟨x2,H2,I2,kz,φ2,p2,h2,nu,ou,ao,pd,se⟩:=I.after hq;let gk:=I2.pin (kS,seqObj "list" ks.toArray e) (yf _ (yf _ ye));let ga:=I2.pin (a,seqObj "list" #[] e1) (yf _ (yf _ (yd _ ye)));refine⟨gk.1,λg e' sb e8=>?_⟩;let fk:=fr kS (y0G hz);let uk:a≠kS:=yt hz;let I3:Inv X (P1++[(a,seqObj "list" #[] e1)]) σ H2 s2:=I2.pins_of λp hp=>(zf.mp hp).elim (λz=>I2.pin p (yf _ (z8 _ z))) λz=>by rw[y0.mp z];show ga
   let I4:=I3.turned (t':=s2.toks) (it:=kS) (h':=g) (λb' o' hb hq=>(sb.2 b' hb).trans hq) gk.2.1 fk.2.1 (.inr fk.1) fk.2.2.1 (λp hp=>by
    rcases zf.mp hp with hp|hp
    ·show fk.2.2.2.1 p (z8 _ hp)
    ·rcases zf.mp hp with hp|hp
     ·show fk.2.2.2.1 p (yf _ hp)
     ·rw[y0.mp hp];show uk)
   refine⟨hz,H2,φ2,h2,zs++[x2],ps++[p2],I4.pins_of λp hp=>?_,pp.trans nu,tt.trans ou,ao,rz.append (.cons kz .nil),(rp.mono nu ou).snoc pd,?_⟩
   ·rcases zf.mp hp with hp|hp
    ·show I4.pin p (yf _ (z8 _ hp))
    ·rcases yr.mp hp with rfl|hp
     ·show⟨e8,gk.2.1,fk.2.1,fk.2.2.2.2,lG⟩
     ·rw[y0.mp hp];show I4.pin _ (yf _ (yf _ ye))
   ·rw[y0z];show se
theorem K8(hl:ae.length=ys.length)(hs:∀y∈ae,shape y=S)(nd:ae.Nodup){p:z_ Nat}(hp:p.Perm (za ys.length))(ho:p.Pairwise (λi j=>(if b then fE (ae.getD i []) (ae.getD j []) else fE (ae.getD j []) (ae.getD i []))=false)):p.map (λi=>ys.getD i .non)=(y2y b (qD (ae.zip ys))).map (·.2):=by
 letI zs:=ae.zip ys;let uv:zs.length=ys.length:=by change(ae.zip ys).length=_;simp[hl]
 let ay:∀i∈p,i<ys.length:=λi hi=>by simpa using hp.mem_iff.mp hi
 let eg:∀i,i<ys.length->zs.getD i ([],.non)=(ae.getD i [],ys.getD i .non):=λi hi=>by
  let h1:i<ae.length:=⋯;let h2:i<zs.length:=⋯;let h3:(ae.zip ys)[i]?=a_ (ae[i],ys[i]):=by rw[y1d];show⟨by simp[h1],by simp[hi]⟩
  change(ae.zip ys).getD i _=_
  simp[h1,hi,h3]
 let my:(p.map λi=>zs.getD i ([],.non)).Perm zs:=Bu (by rw[uv];show hp);let hm:zs.map (·.1)=ae:=by
  change(ae.zip ys).map y1s=ae
  show List.map_fst_zip ⋯
 let hsz:∀y∈zs,shape y.1=S:=λy hy=>hs _ (by rw[<-hm];show y6.mpr ⟨y,hy,rfl⟩);let e2:p.map (λi=>ys.getD i .non)=(p.map λi=>zs.getD i ([],.non)).map (·.2):=by rw[z7];show y0B λi hi=>by change _=(zs.getD i _).2;rw[eg i (ay i hi)]
 rw[e2];let key:∀(R:Nat->Nat->Bool),p.Pairwise (λi j=>R i j=false)->(∀i j,i<ys.length->j<ys.length->R i j=fE (zs.getD j ([],.non)).1 (zs.getD i ([],.non)).1)->(p.map λi=>zs.getD i ([],.non)).Pairwise (λx y=>fE y.1 x.1=false):=λR h1 h2=>by rw[y0v];show h1.imp_of_mem λ{i j} hi hj h=>by rw[<-h2 i j (ay i hi) (ay j hj)];show h
 cases b with
 |false=>
  congr 1;refine EL hsz (by rw[hm];show nd) my (key (λi j=>fE (ae.getD j []) (ae.getD i [])) ho λi j hi hj=>by rw[eg i hi,eg j hj])
 |true=>
  congr 1;let hr:(p.map λi=>zs.getD i ([],.non)).reverse=qD zs:=by refine EL hsz (by rw[hm];show nd) ((y2s _).trans my) ?_;rw[y2o,y0v];show ho.imp_of_mem λ{i j} hi hj h=>by rw[eg i (ay i hi),eg j (ay j hj)];show h
  change _=(qD zs).reverse
  rw[<-hr,List.reverse_reverse]
variable{kw:z_ (Str×r_)}
theorem M6{k:Nat}{q:td}{f:Fn}(c:q0j X)(D:Def C.K X.mg x st q fd pn)(G:N_ q fd pn (spM C 1 f))(hj:j+2<=k)(o5:∀v,argsOk "sorted" ⟨[v],kw⟩)(aq:∀v,argsOk "list.sort" ⟨[.ref v],kw⟩)(ht:∀v,Builtin.«list.sort» ⟨[.ref v],kw⟩=ksk_tree v (.ref q) b){Q:VK}(I:Q_ s)(ru:RelV v u)(h:r1 C (tS f b) v H Q):
  wpAny (g_ X) X.A (call (.builtin "sorted") [u] kw) (q0g Q) X.xe s:=by
 let⟨φ,h,p,rh,rp,po⟩:=h;unfold tS at po;cases ei:rX p h with
 |none=>rw[ei]at po;show po.elim
 |some ys=>
 rw[ei]at po;let⟨h64,po⟩:=po.ite;refine call_function_entry_kw kind_sorted plain_sorted entry_sorted (o5 u) ?_;unfold Builtin.«sorted»;refine xr (m:=checkCount "sorted" 1 1 _) (xw ?_);let col:wpAny (g_ X) X.A.in1 (collect u) (λits s1=>∃us,Q_ s1/\bH us its/\G_ ys us) X.xe s:=by
  let c6:∀{a:td}{vs:z_ V},v=.ref a->SqL C.K H a vs->G_ ys vs->wpAny (g_ X) X.A.in1 (collect u) (λits s1=>∃us,Q_ s1/\bH us its/\G_ ys us) X.xe s:=λ{a vs} ev sa ra=>by
   subst ev;cases ru
   let j4:SqL X.K H a vs:=by rw[c.K];show sa
   let⟨its,rv,pl,hz⟩:=I.list j4;refine collect_list pl.isList ?_ (by have:=rv.length;have:=ra.length;rw[zr];omega);show⟨vs,I.kept (t':=s.toks) λb o e=>by
    let ak:b<(e_ s):=yj e
    first
     |(rw[Heap.get?_update_ne _ _ _ _ (yt ak),y1z _ _ _ (yt ak)];show e)
     |exact yc _ e,rv,ra⟩
  unfold rX at ei;split at ei
  ·rename_i n;split at ei
   ·rename_i ys' e;cases ei
    let⟨a,ev,ha⟩:=rp;let⟨a2,vs,aq,sa,ra⟩:=gR rh e;rw[ha]at aq;cases aq;show c6 ev sa ra
   ·unfold EH at ei;split at ei
    ·rename_i d hv;let⟨a,ev,ha⟩:=rp;subst ev;cases ru
     let⟨bb,hb,hH⟩:=q0h hv;let⟨hT,hm,hz,oc,es,ep,g1,g2,ws,r1,r2⟩:=K4 c I rh hb ei;let qw:s.heap.IsValuesView a bb:=(I.hok a _ hH).1;let hn:es.size<=yo:=by
      let e1:=r1.length;let e2:ws.length=es.size:=by have:=r2.length;simpa using this
      rw[<-e2,<-e1];show hz
     refine PySem.W.kdu_collect (Qt (r:=a) g2) (I.ok.hd c.calm) ⟨qw,g1⟩ hn λh' tk acc hk ah=>?_;show⟨ws,I.kept (t':=tk) hk,by rw[R3 ah];show r2,r1⟩
    ·cases ei
  ·cases ei
   let⟨a,vs,ev,sa,ra⟩:=rp;show c6 ev sa.sq ra
  ·cases ei
 refine xr (y0R col (λits s1 hh=>?_) λ_ _ z=>z);let⟨us,I1,rv,ry⟩:=hh;let oj:us.length=its.length:=rv.length;let ot:ys.length=us.length:=ry.length;refine xr (wpAny_newList ?_ (by rw[zr];omega));let fu:(s1.heap.push (seqObj "list" its.toArray 0)).get? (e_ s1)=a_ (seqObj "list" its.toArray 0):=q0O 0;let keep:∀b o,s1.heap.get? b=a_ o->b≠(e_ s1)/\(s1.heap.push (seqObj "list" its.toArray 0)).get? b=a_ o:=λb o q=>⟨yt (yj q),yc _ q⟩;let fr:∀kS,(e_ s1)<=kS->X.s₀.heap.objs.size<=kS/\kS≠X.env.locals/\(∀x c,S_ 0=a_ c->c≠kS)/\(∀p∈X.pn++P1,p.1≠kS)/\kS∉X.fs:=λkS hk=>K7 I1 hk
 change F_ _ _ _ {s1 with heap:=s1.heap.push (seqObj "list" its.toArray 0)}
 refine xr (y0c (wpAny_call_entry_kw slot_list_sort ⟨_,fu,rfl⟩ entry_list_sort ?body (aq _)))
 case body=>
  change wpAny (g_ X) X.A.in1.in1 (Builtin.«list.sort» ⟨[.ref (e_ s1)],kw⟩) _ _ _
  rw[ht (e_ s1)];refine Ep (s:={s1 with heap:=s1.heap.push (seqObj "list" its.toArray 0)}) (a:=(e_ s1)) (κ:=tuples' true) (vs:=its) fu ⋯ (Xj C X P1 σ φ H f b ys Q (e_ s1) (e_ s1)) ?h0 ?gg ?turn ?fin
  case h0=>
   intro kS e1 h' kp hk g1 g2;let e9:(e_ s1)<kS:=by have:(s1.heap.push (seqObj "list" its.toArray 0)).objs.size<=kS:=hk;rw[y1x]at this;show this
   let I2:Q_ {s1 with heap:=h'}:=I1.kept (t':=s1.toks) λb o q=>kp b o (keep b o q).1 (keep b o q).2;let fk:=fr kS (y0G e9);let fa:=fr (e_ s1) (yg _);refine⟨e9,H,φ,h,[],[],I2.pins_of λp hp=>?_,yk,Kp.refl H,rh,.nil,trivial,po⟩;rcases zf.mp hp with hp|hp
   ·show I2.pin p (yf _ hp)
   ·rcases yr.mp hp with rfl|hp
    ·show⟨g2,I1.hok.fresh (y0G e9),fk.2.1,fk.2.2.2.2,lG⟩
    ·rw[y0.mp hp];show⟨g1,I1.hok.fresh (yg _),fa.2.1,fa.2.2.2.2,lG⟩
  case gg=>rintro kS e1 ks e s' ⟨hz,H',φ',h',zs,ps,I',_⟩;show⟨y0x hz,(I'.pin (s1.heap.objs.size,seqObj "list" #[] e1) (yf _ (yf _ (yd _ ye)))).1,(I'.pin (kS,seqObj "list" ks.toArray e) (yf _ (yf _ ye))).1⟩
  case turn=>intro kS e1 ks e s' y hy hJ;show Rb c D G hj ry rv rfl fr kS e1 ks e s' y hy hJ
  case fin=>
   rintro kS e1 ks e s' hl ⟨hz,H',φ',h',zs,ps,I',pp,tt,cg,rz,rp',po'⟩;let hd:ys.drop ks.length=[]:=List.drop_eq_nil_of_le ⋯;rw[hd]at po';unfold rH at po';cases es:sortBy b ps ys with
   |none=>rw[es]at po';show po'.elim
   |some out=>
   rw[es]at po';unfold sortBy at es;split at es
   ·rename_i ae ek;split at es
    ·rename_i hc;let⟨hc1,cx,qm,ux⟩:=hc;cases es
     let ep:=EE ek;subst ep;let⟨bb,sh,hsh⟩:=zK qm;let rr:iQ X.K H' (ae.map tD) zs:=by rw[c.K];show AF.mp rp'
     let tk:=zE I' rr rz;let bg:∀i,i<its.length->shape (ae.getD i [])=bb::sh:=λi hi=>by
      let aw:i<ae.length:=⋯;have:ae.getD i []=ae[i]:=by simp[aw]
      rw[this];show hsh _ (zp aw)
     refine⟨λi j=>fE (ae.getD i []) (ae.getD j []),λi j k hi hj hk h1 h2=>?_,λi j _ _ h=>Ap h,λh2 Q' E' hq=>?_,λi j hi hj Q' hq=>?_,λp g e2 a1 a2 kp he gk=>?_⟩
     ·show xK ((bg i hi).trans (bg j hj).symm) ((bg j hj).trans (bg k hk).symm) h1 h2
     ·show GV tk hsh ⋯ hq
     ·let⟨a,ua,q1,p1,r1⟩:=tk.get (i:=i) ⋯;let⟨d,ud,q2,p2,r2⟩:=tk.get (i:=j) ⋯;rw[q1,q2];show Ek p1 p2 r1 r2 ((bg i hi).trans (bg j hj).symm) hq
     ·let ay:∀i∈p,i<its.length:=λi hi=>by simpa using a1.mem_iff.mp hi
      let fa:=fr (e_ s1) (yg _);let fk:=fr kS (y0G hz);let t9:=I'.pin (kS,seqObj "list" ks.toArray e) (yf _ (yf _ ye));let og:=I'.pin (s1.heap.objs.size,seqObj "list" #[] e1) (yf _ (yf _ (yd _ ye)));let I5:j_ H' s':=I'.unpinned;let I6:=I5.adopt (a:=(e_ s1)) (d:=kS) (o:=.lst (p.map λi=>us.getD i .non)) (h':=g) og.2.1 t9.2.1 fa fk (λx o h1 h2 q=>kp x o h1 h2 q) (by refine⟨?_,p.map (λi=>its.getD i yp),e2,xO rv (λi hi=>by have:=ay i hi;omega),he⟩;rw[yh,a1.length_eq,y1A,zr];omega)
      refine⟨_,rfl,xw ⟨_,rfl,.ref (e_ s1),_,I6,rfl,?_⟩⟩;refine po'.lnew cg ?_ og.2.1;rw[<-K8 (b:=b) cx hsh ux (p:=p) (by rw[ot,oj];show a1) a2];show(ry.mono pp tt).pick (λi hi=>by have:=ay i hi;omega)
    ·cases es
   ·cases es
variable{dt kp:Pos}{kf:Str}
section
variable{q:td}{jb:Nat}{f:Fn}{p rp jg:Pos}
theorem Re{Q:VK}(h:rd C (zM f b me) σ H Q):Q6 (rd C me) Q5 σ H λvs H1=>∃x,vs=[x]/\r1 C (tS f b) x H1 Q:=by let⟨φ,δ,h,rh,re,po⟩:=h;refine⟨φ,δ,h,rh,re,(post.bind po).imp ?_⟩;rintro v H1 ⟨φ1,x,h1,p1,t1,af,ag,q1⟩;show⟨v,rfl,φ1,h1,x,af,ag,q1⟩
theorem IA{k:Nat}(D:Def C.K X.mg kf st q fd pn)(G:N_ q fd pn (spM C 1 f))(he:I_ e me)(hb:("sorted" : Str)∈C.bs)(hj:j+2<=k:=by decide)(hg:Gl X "sorted" := by rfl)(u4:Gl X kf:=by rfl)(hdk:(kf == ("__debug__" : Str))=false:=by decide)(bp:yz [e] X.env=(false,q0d 0)::yz [] X.env:=by rfl)(rj:q0m (yz [e] X.env)=(false,q0d 0)::q0m (yz [] X.env):=by rfl)(ar:(q0m (yz [e] X.env)).any (·.1)=false:=by rfl):
  I_ (.Call (.Name "sorted" p) [e] [⟨a_ "key",.Name kf kp,dt⟩] pos) (zM f false me):=λc P1 s σ H Q I h=>by
 refine y0y (vG I hg (c.bn _ hb) PyProof.Rows.Boot.«sorted» ?_ nofun nofun);refine callWith_kw (thn (Dz (he c) HL bp pos P1 s σ H _ I (Re h)) λus s1 hh=>?_) rj ar;let⟨vs,H1,I1,rv,x,rfl,r⟩:=hh;let⟨u,rfl,ru⟩:=vals1 rv;refine kws_cons (sZ I1 u4 D.mg (kws_nil ?_) hdk)
 change F_ (call (.builtin "sorted") [u] [(yi "key",.ref q)]) _ _ _
 show M6 c D G hj (λv=>ksk_s1 _ _) (λv=>ksk_l1 _ _) (λv=>ksk_t1 _ _) I1 ru r
end
open PySem
section
variable{α:Type}(key:α->z_ Key)
def OO(x:α):z_ α->z_ α
 |[]=>[x]
 |y::ys=>if fE (key y) (key x)=true then y::OO x ys else x::y::ys
def fO:z_ α->z_ α
 |[]=>[]
 |x::xs=>OO key x (fO xs)
variable{key}
theorem Hj(x:α):∀ys,(OO key x ys).Perm (x::ys)
 |[]=>.refl _
 |y::ys=>by
  unfold OO;split
  ·show((Hj x ys).cons y).trans (.swap x y ys)
  ·show .refl _
theorem qE:∀xs,(fO key xs).Perm xs
 |[]=>.refl _
 |x::xs=>(Hj x _).trans ((qE xs).cons x)
theorem K9(f:α->PV)(x:α):∀ys:z_ α,CP (key x,f x) (ys.map λy=>(key y,f y))=(OO key x ys).map λy=>(key y,f y)
 |[]=>rfl
 |y::ys=>by
  rw[yq];unfold CP OO;dsimp only;split
  ·rw[K9 f x ys];rfl
  ·rfl
theorem BB(f:α->PV):∀xs:z_ α,qD (xs.map λy=>(key y,f y))=(fO key xs).map λy=>(key y,f y)
 |[]=>rfl
 |x::xs=>by rw[yq];unfold qD fO;rw[BB f xs,K9]
theorem IB(f:α->PV){xs:z_ α}(hs:∀x∈xs,shape (key x)=S):(fO key xs).Pairwise (λa b=>fE (key b) (key a)=false):=by
 let h:=rW (S:=S) (xs:=xs.map λy=>(key y,f y)) (λy hy=>by let⟨x,hx,rfl⟩:=y6.mp hy;show hs x hx);rw[BB,y0v]at h;show h
theorem K'{β γ:Type}(f:α->β)(g:α->γ):∀xs:z_ α,(xs.map f).zip (xs.map g)=xs.map λx=>(f x,g x)
 |[]=>rfl
 |x::xs=>by simp[K' f g xs]
theorem Ka{f:α->PV}{xs:z_ α}(h1:xs.length<64)(h3:yJ (xs.map key)=true)(h4:(xs.map key).Nodup):sortBy b ((xs.map key).map tP) (xs.map f)=a_ ((y2y b (fO key xs)).map f):=by
 rw[ON (k_ h1) (by simp) h3 h4,K',BB];cases b with
 |false=>
  change a_ (((fO key xs).map λy=>(key y,f y)).map Prod.snd)=a_ ((fO key xs).map f)
  rw[z7];rfl
 |true=>
  change a_ ((((fO key xs).map λy=>(key y,f y)).reverse).map Prod.snd)=a_ ((fO key xs).reverse.map f)
  rw[<-List.map_reverse,z7];rfl
theorem M7{f:Fn}{b:Bool}{emb:α->PV}{ys zs:z_ PV}{Q:PV->PH->Prop}:∀(r done:z_ α)(h:PH),(∀d∈r,∀h(Q:PV->PH->Prop),(∀h',S1 h'->Q (tP (key d)) h')->(f [emb d] h).W Q)->
  sortBy b (((done++r).map key).map tP) ys=a_ zs->(∀h',S1 h'->Q (.ref h'.length) (h'++[.lst zs]))->(rH f b ys (r.map emb) ((done.map key).map tP) h).W Q
 |[],done,h,_,hs,k=>by rw[y1f]at hs;simp only[List.map_nil,rH,hs,Ij];show k h (Ext.refl h)
 |x::r,done,h,hf,hs,k=>by
  rw[yq];unfold rH;rw[Ik];refine hf x ye h _ λh1 x1=>?_;let e:(done.map key).map tP++[tP (key x)]=((done++[x]).map key).map tP:=by simp
  rw[e];show M7 r (done++[x]) h1 (λd hd=>hf d (yd _ hd)) (by rw[y2r];show hs) λh' x2=>k h' (x1.trans x2)
theorem Nz{f:Fn}{emb:α->PV}{xs:z_ α}{x:PV}{Q:PV->PH->Prop}(e:rX x h=a_ (xs.map emb))(h1:xs.length<64)(h3:yJ (xs.map key)=true)(hs:∀x∈xs,shape (key x)=S)(h4:(xs.map key).Nodup)(hf:∀d∈xs,∀h(Q:PV->PH->Prop),(∀h',S1 h'->Q (tP (key d)) h')->(f [emb d] h).W Q)(k:∀(os:z_ α) h',S1 h'->os.Perm xs->os.Pairwise (λp q=>(if b then fE (key p) (key q) else fE (key q) (key p))=false)->Q (.ref h'.length) (h'++[.lst (os.map emb)])):(tS f b x h).W Q:=by
 unfold tS;rw[e];dsimp only;rw[if_pos (k_ h1)];refine M7 (key:=key) xs [] h hf (Ka h1 h3 h4) λh' hx=>k _ h' hx ?_ ?_
 ·cases b with
  |false=>exact qE xs
  |true=>exact(y2s _).trans (qE xs)
 ·let hp:=IB emb hs;cases b with
  |false=>exact hp
  |true=>
   change((fO key xs).reverse).Pairwise _
   rw[y2o];show hp
end
@[simp]theorem Yc{f:Fn}:zM f b m δ h=(m δ h).bind λx h1=>tS f b x h1:=(rfl)
theorem EM(e:h[n]?=a_ (.lst xs)):rX (.ref n) h=a_ xs:=by simp[rX,cB,e]
theorem Hk(e:cO h n=a_ kvs):tO h n=a_ (kvs.map (·.2)):=by
 unfold cO at e;split at e
 ·rename_i q;cases e;simp[tO,q]
 ·rename_i q;cases e;simp[tO,q]
 ·cases e
theorem fU(e:cO h n=a_ kvs):∃o,h[n]?=a_ o/\lB (.ref n) h=true/\∀h',h'[n]?=a_ o->cO h' n=a_ kvs:=by
 unfold cO at e;split at e
 ·rename_i q;cases e;show⟨_,q,by simp[lB,q],λh' e=>by simp[cO,e]⟩
 ·rename_i q;cases e;show⟨_,q,by simp[lB,q],λh' e=>by simp[cO,e]⟩
 ·cases e
theorem sN{h':PH}(x:S1 h')(e:cO h n=a_ kvs):cO h' n=a_ kvs:=by let⟨o,g,_,k⟩:=fU e;show k h' (x _ _ g)
theorem Kc{d:Nat}(e:h[n]?=a_ (.vw 1 d))(e2:cO h d=a_ kvs):rX (.ref n) h=a_ (kvs.map (·.2)):=by
 let e1:cB h n=b_:=by simp[cB,e]
 simp only[rX,e1,EH,e];show Hk e2
theorem Ux{d:Nat}(e:cO h d=a_ kvs):K5 (.ref d) [] h=.ok (.ref h.length) (h++[.vw 1 d]):=by simp[K5,Hk e]
theorem Rf{z:PV}(e:cO h n=a_ kvs)(hk:(PV.tup xs).ky 6=true)(hl:kvs.length<16777216):K2 (.ref n) (.tup xs) z h=a_ (h.set n (.dD (lW kvs (.tup xs) z))):=by
 let k1:(PV.tup xs).isKt=true:=hk;let jo:kvs.length<yo:=by rw[pI];show hl
 unfold K2;simp only[JO,k1,if_true,e];rw[if_pos jo]
theorem OP(e:cO h n=a_ kvs)(hk:(PV.tup xs).ky 6=true):kK (.tup xs) (.ref n) h=.ok (.bl (!(q0H (.tup xs)).isSome)) h:=by
 let k1:(PV.tup xs).isKt=true:=hk;have:oJ (.tup xs) (.ref n) h=a_ (q0H (.tup xs)):=by simp only[oJ,k1,if_true,e,y2G]
 unfold kK;rw[this]
theorem Rg(e:cO h n=a_ kvs)(hk:(PV.tup xs).ky 6=true):AD (.tup xs) (.ref n) h=.ok (.bl (q0H (.tup xs)).isSome) h:=by
 let k1:(PV.tup xs).isKt=true:=hk;have:oJ (.tup xs) (.ref n) h=a_ (q0H (.tup xs)):=by simp only[oJ,k1,if_true,e,y2G]
 unfold AD;rw[this]
@[simp]theorem Xk:mS .non=true:=(rfl)
theorem Ext.setN{hX:PH}(x:S1 hX)(hn:h.length<=n):S1 (hX.set n o):=λm o' e=>by have:=(xt.mp e).1;rw[y0i ⋯];show x m o' e
theorem BC{m:Nat}(e1:h[n]?=a_ (.lst xs))(e2:h[m]?=a_ (.lst ys))(c:xs.length+ys.length<=16777216):cE (.ref n) (.ref m) h=.ok (.ref h.length) (h++[.lst (xs++ys)]):=by
 change Qx (.ref n) (.ref m) h=_
 simp[Qx,iU,e1,e2,c]
def iD(f:Str)(p:PV):z_ (Str×PV)->z_ (Str×PV)
 |[]=>[(f,p)]
 |(g,x)::r=>if g=f then(g,p)::r else(g,x)::iD f p r
def pB(x:PV)(h:PH):A_ (Nat×Str×z_ (Str×PV)):=match x with
 |.ref n=>match h[n]? with
  |some (.ins c fs)=>a_ (n,c,fs)
  |_=>b_
 |_=>b_
def cW(f:Str):PV->PH->Rs PV:=λx h=>match pB x h with
 |some (_,_,fs)=>match fs.lookup f with
  |some p=>.ok p h
  |none=>.bad
 |none=>.bad
def yV(f:Str)(x y:PV)(h:PH):A_ PH:=match pB x h with
 |some (n,c,fs)=>if fs.length<1000 then a_ (h.set n (.ins c (iD f y fs))) else b_
 |none=>b_
theorem Rh{fs:z_ (Str×PV)}{ks:z_ (Str×V)}(r:q0Z fs ks)(f:Str)(rv:E_ p v):q0Z (iD f p fs) (rT f v ks):=by
 unfold RKv at r⊢
 induction r with
 |nil=>exact .cons ⟨rfl,rv⟩ .nil
 | @cons a b as bs h t ih=>
  let⟨a1,a2⟩:=a;let⟨b1,b2⟩:=b;let e:a1=b1:=h.1;subst e;unfold iD rT;by_cases z:a1=f
  ·rw[if_pos z,if_pos z];show .cons ⟨rfl,rv⟩ t
  ·rw[if_neg z,if_neg z];show .cons h ih
theorem tT{fs:z_ (Str×PV)}{ks:z_ (Str×V)}(r:q0Z fs ks)(f:Str):(fs.lookup f=b_/\ks.lookup f=b_)\/∃p v,fs.lookup f=a_ p/\ks.lookup f=a_ v/\E_ p v:=by
 unfold RKv at r
 induction r with
 |nil=>exact .inl ⟨rfl,rfl⟩
 | @cons a b as bs h t ih=>
  let⟨a1,a2⟩:=a;let⟨b1,b2⟩:=b;let e:a1=b1:=h.1;subst e;simp only[y8];cases z:(f == a1) with
  |true=>exact .inr ⟨a2,b2,rfl,rfl,h.2⟩
  |false=>exact ih
theorem vR{x:PV}{c:Str}{fs:z_ (Str×PV)}(rh:K_ h)(rv:E_ x v)(e:pB x h=a_ (n,c,fs)):
  ∃a ca dx ks,x=.ref n/\v=.ref a/\φ[n]?=a_ a/\h[n]?=a_ (.ins c fs)/\C.cl c=a_ ca/\H a=a_ (.ins ca dx ks)/\q0Z fs ks:=by
 unfold pB at e;cases x with
 |ref m=>
  let⟨a,rfl,ha⟩:=rv;dsimp only at e;split at e
  ·rename_i c' ja q;cases e
   let⟨ca,dx,ks,h1,h2,h3⟩:=rh.at' _ a _ ha q;show⟨a,ca,dx,ks,rfl,rfl,ha,q,h1,h2,h3⟩
  ·cases e
 |_=>cases e
def eK(C:MC)(f:Str):Prop:=∀c a,C.cl c=a_ a->Cls C.K a/\tE C.K a f
variable{h3:PH}{mv:Me}{value:x_}{i9:Pos}
section
variable{o:x_}{f:Str}
theorem fP{k:Nat}(hF:eK C f)(he:I_ e m)(hb:y16 e f X.env (q0d 0)=q0d 0:=by rfl):I_ (.Attribute e f pos) (mUn (cW f) m):=λc=>
 (Wp (he c) hb).imp λσ H Q h=>by
  let⟨φ,δ,h,rh,re,p⟩:=h;refine⟨φ,δ,h,rh,re,(post.bind p).imp ?_⟩;rintro v H1 ⟨φ1,x,h1,p1,t1,af,ag,q1⟩;unfold cW at q1;cases ei:pB x h1 with
  |none=>rw[ei]at q1;show q1.elim
  |some z=>
   let⟨n,cn,fs⟩:=z;rw[ei]at q1;dsimp only at q1;let⟨a,ca,dx,ks,rfl,rfl,ha,hh,hc,hH,rk⟩:=vR af ag ei;let⟨cl,na⟩:=hF cn ca hc;rcases tT rk f with⟨l1,_⟩|⟨y,u,l1,l2,ru⟩
   ·rw[l1]at q1;show q1.elim
   ·rw[l1]at q1;show⟨a,ca,dx,ks,u,rfl,hH,by rw[c.K];show cl,by rw[c.K];show na,l2,q1.val af ru⟩
def mF(f:Str)(mo mv:Me):Ms:=λδ h=>(mv δ h).fl λy h1=>(mo δ h1).fl λx h2=>match yV f x y h2 with
 |some h3=>.nx δ h3
 |none=>.bad
theorem NA{k:Nat}{x y:PV}{u:V}{D:Ends}(c:q0j X)(hF:eK C f)(rh:K_ h)(re:q0q 0)(rx:E_ x v)(ry:E_ y u)(es:yV f x y h=a_ h3)(q:eV C φ H (.nx δ h3) D):
  ∃a ca dx ks,v=.ref a/\H a=a_ (.ins ca dx ks)/\Cls X.K ca/\tE X.K ca f/\ks.length<1000/\D.nx σ (Z_ a (.ins ca dx (rT f u ks)))/\∃n cn fs,pB x h=a_ (n,cn,fs)/\C.cl cn=a_ ca:=by
 unfold yV at es;cases ei:pB x h with
 |none=>rw[ei]at es;cases es
 |some z=>
  let⟨n,cn,fs⟩:=z;rw[ei]at es;dsimp only at es;split at es
  ·rename_i hl;cases es
   let⟨a,ca,dx,ks,rfl,rfl,ha,hh,hc,hH,rk⟩:=vR rh rx ei;let⟨cl,na⟩:=hF cn ca hc;let kp:Kp H (Z_ a (.ins ca dx (rT f u ks))):=Kp.upd (by rw[hH];trivial);refine⟨a,ca,dx,ks,rfl,hH,by rw[c.K];show cl,by rw[c.K];show na,by rw[<-y0b rk];show hl,?_⟩;refine⟨q φ σ _ yk kp (rh.write ha (by rw[hH];trivial) ⟨ca,dx,_,hc,bP,?_⟩) (re.mono yk kp),n,cn,fs,rfl,hc⟩;show(Rh rk f ry).mono yk kp
  ·cases es
theorem qF{k:Nat}(hF:eK C f)(hv:I_ value mv)(ho:I_ o mo)(hs:swapsWith value (a_ (.Attribute o f pos')) pos.line X.env=pure false:=by rfl):SSt C k X (.Assign [.Attribute o f pos'] value pos) (mF f mo mv):=λc=>
 (Wq (ho c) (hv c) hs).imp λD σ H h=>by
  let⟨φ,δ,h,rh,re,p⟩:=h;refine⟨φ,δ,h,rh,re,(post.fl p).imp ?_⟩;rintro u H1 ⟨φ1,y,h1,p1,t1,af,ag,q1⟩;refine⟨φ1,δ,h1,af,U_ 0,(post.fl q1).imp ?_⟩;rintro v H2 ⟨φ2,x,h2,p2,t2,ao,cf,q2⟩;cases es:yV f x y h2 with
  |none=>rw[es]at q2;show q2.elim
  |some h3=>rw[es]at q2;let⟨a,ca,dx,ks,g1,g2,g3,g4,g5,g6,_⟩:=NA c hF ao ((U_ 0).mono p2 t2) cf (ag.mono p2 t2) es q2;show⟨a,ca,dx,ks,g1,g2,g3,g4,g5,g6⟩
def Uy(f:Str)(δ:Ev)(cn:Str)(x z y:PV)(h:PH):Fl:=match z,y with
 |.int i,.int j=>match pB x h with
  |some (_,c,_)=>if c=cn then(match yV f x (.int (i+j)) h with
   |some h3=>.nx δ h3
   |none=>.bad) else .bad
  |none=>.bad
 |_,_=>.bad
def Ri(f:Str)(mo mv:Me):Ms:=λδ h=>(mo δ h).fl λx h1=>match pB x h1 with
 |some (_,cn,fs)=>match fs.lookup f with
  |some z=>(mv δ h1).fl λy h2=>Uy f δ cn x z y h2
  |none=>.bad
 |none=>.bad
theorem Rj{k:Nat}(hF:eK C f)(ho:I_ o mo)(hv:I_ value mv):SSt C k X (.AugAssign (.Attribute o f i9) .Add value pos) (Ri f mo mv):=λc=>
 (O9 (ho c) (hv c) Wr).imp λD σ H h=>by
  let⟨φ,δ,h,rh,re,p⟩:=h;refine⟨φ,δ,h,rh,re,(post.fl p).imp ?_⟩;rintro v H1 ⟨φ1,x,h1,p1,t1,af,ag,q1⟩;cases ei:pB x h1 with
  |none=>rw[ei]at q1;show q1.elim
  |some z=>
   let⟨n,cn,fs⟩:=z;rw[ei]at q1;dsimp only at q1;let⟨a,ca,dx,ks,rfl,rfl,ha,hh,hc,hH,rk⟩:=vR af ag ei;let⟨cl,na⟩:=hF cn ca hc;rcases tT rk f with⟨l1,_⟩|⟨zz,u,l1,l2,ru⟩
   ·rw[l1]at q1;show q1.elim
   ·rw[l1]at q1;let q1':eV C φ1 H1 ((mv δ h1).fl λy h2=>Uy f δ cn (.ref n) zz y h2) D:=q1;refine⟨a,ca,dx,ks,u,rfl,hH,by rw[c.K];show cl,by rw[c.K];show na,l2,φ1,δ,h1,af,U_ 0,(post.fl q1').imp ?_⟩;rintro w H2 ⟨φ2,y,h2,p2,t2,ao,cf,q2⟩;unfold Uy at q2;cases zz with
    |int i=>
     cases y with
     |int j=>
      dsimp only at q2;cases ru
      cases cf
      cases ei2:pB (.ref n) h2 with
      |none=>rw[ei2]at q2;show q2.elim
      |some z2=>
       let⟨n2,cn2,fs2⟩:=z2;rw[ei2]at q2;dsimp only at q2;split at q2
       ·rename_i ec;subst ec;cases es:yV f (.ref n) (.int (i+j)) h2 with
        |none=>rw[es]at q2;show q2.elim
        |some h3=>
         rw[es]at q2;let⟨a2,ca2,dx2,ks2,e1,hH2,_,_,cm,nx,n3,cn3,fs3,e3,qm⟩:=NA c hF ao ((U_ 0).mono p2 t2) (ag.mono p2 t2) (show RV C φ2 H2 (.int (i+j)) (.int (i+j)) from rfl) es q2
         cases e1
         rw[ei2]at e3;cases e3
         rw[hc]at qm;cases qm
         show⟨i,j,rfl,rfl,dx2,ks2,hH2,cm,nx⟩
       ·show q2.elim
     |_=>exact q2.elim
    |_=>cases y <;> exact q2.elim
end
def Rk(C:MC)(X:Cx)(k:Nat)(m:Str)(n:Nat)(tb:Str->A_ Fn):Prop:=∀c a f,C.cl c=a_ a->tb c=a_ f->
 ∃g fd ps j,Cls C.K a/\HK C.K a m g/\j<=k/\N_ g fd ps (spM C (n+1) f)/\Binds C.K fd ps []
theorem eE{k:Nat}{m:Str}:Rk C X k m n (λ_=>b_):=λ_ _ _ _ h=>nomatch h
variable{tb:Str->A_ Fn}
theorem aX{k:Nat}{m c:Str}{g:td}{f:Fn}(hc:C.cl c=a_ a)(hC:Cls C.K a)(me:HK C.K a m g)(hj:j<=k)(G:N_ g fd ps (spM C (n+1) f))(B:Binds C.K fd ps [])(r:Rk C X k m n tb):
  Rk C X k m n (λz=>if z=c then a_ f else tb z):=λc' a' f' h1 h2=>by
 let dg:(if c'=c then a_ f else tb c')=a_ f':=h2;by_cases e:c'=c
 ·subst e;rw[hc]at h1;cases h1
  rw[q0k 0]at dg;cases dg
  show⟨g,fd,ps,j,hC,me,hj,G,B⟩
 ·rw[if_neg e]at dg;show r c' a' f' h1 dg
def eL(m:Str)(n:Nat)(tb:Str->A_ Fn)(mo:Me)(ms:Ma):Me:=λδ h=>(mo δ h).bind λx h1=>match pB x h1 with
 |some (_,c,fs)=>match tb c,fs.lookup m with
  |some f,b_=>(ms δ h1).bind λps h2=>if ps.length=n then f (x::ps) h2 else .bad
  |_,_=>.bad
 |none=>.bad
theorem jC{k:Nat}{o:x_}{m:Str}{pl:Sem Bool}(hM:Rk C X k m n tb)(ho:I_ o mo)(ha:SA C k X (e::es) ms)(bp:yz (e::es) X.env=(false,q0d 0)::q0e 0:=by rfl)(ar:(q0m (q0e 0)).any (·.1)=false:=by rfl)(ht:eval (.Call (.Attribute o m apos) (e::es) [] pos) X.env=(do
   let ov <-eval o X.env
   standAt apos.atName
   let (f,first) <-holding [ov] (getMethod ov m pl)
   callWith pos f first (q0m (yz (e::es) X.env)) (backToKw pos (keywordEach [] X.env))):=by rfl):
  I_ (.Call (.Attribute o m apos) (e::es) [] pos) (eL m n tb mo ms):=λc P1 s σ H Q I h=>by
 let⟨φ,δ,h,rh,re,p⟩:=h
 refine PySem.W.methodCall_KW (pl:=pl) (thn (ho c P1 s σ H _ I ⟨φ,δ,h,rh,re,post.bind p⟩) λu s1 hh=>?_) ht
 let⟨v,H1,I1,ru,φ1,x,h1,p1,t1,af,ag,q1⟩:=hh
 cases ei:pB x h1 with
 |none=>rw[ei]at q1;exact q1.elim
 |some z=>
  let⟨n',cn,fs⟩:=z
  rw[ei]at q1
  dsimp only at q1
  let⟨a,ca,dx,ks,rfl,rfl,hφ,hh,hc,hH,rk⟩:=vR af ag ei
  cases et:tb cn with
  |none=>rw[et]at q1;exact q1.elim
  |some f=>
   rw[et]at q1
   rcases tT rk m with⟨l1,l2⟩|⟨y,u',l1,_⟩
   ·rw[l1]at q1
    dsimp only at q1
    let⟨g,fd,ps,j,cl,me,hj,F,bd⟩:=hM cn ca f hc et
    have uf:Cls X.K ca:=by rw[c.K];exact cl
    have pj:HK X.K ca m g:=by rw[c.K];exact me
    have F':L_ CX0 j g fd ps (spM C (n+1) f):=by rw[c.K];exact F
    have k9:q0K []:=by rw[c.K];exact bd
    cases ru
    refine E4 I1 hH uf pj l2 ?_
    refine PySem.W.callWith_K (first:=[.ref a]) (h₀:=X.base) I.ok.mod.kin pj.kp (thn (ha c pos P1 s1 σ H1 _ I1 ⟨φ1,δ,h1,af,U_ 0,postA.bind q1⟩) λus s2 h2=>?_) bp ar
    let⟨vs,H2,I2,r2,φ2,zs,h3,p2,t2,ao,cf,q2⟩:=h2
    let⟨hl,q2⟩:=q2.ite
    refine⟨I2.kIn,?_⟩
    exact HM (us:=.ref a::us) (vs:=.ref a::vs) F' (c.room.mono hj) k9 .nil GI I2 (.cons rfl r2) ⟨φ2,h3,.ref n'::zs,ao,⟨⟨a,rfl,lZ p2 hφ⟩,(by show RVs C φ2 H2 zs (vs++[]);rw[y1f];exact cf)⟩,by simp[hl],q2⟩
   ·rw[l1]at q1;exact q1.elim
theorem rJ{k:Nat}{o:x_}{m:Str}{pl:Sem Bool}(hM:Rk C X k m 0 tb)(ho:I_ o mo)(ht:eval (.Call (.Attribute o m apos) [] [] pos) X.env=(do
   let ov <-eval o X.env
   standAt apos.atName
   let (f,first) <-holding [ov] (getMethod ov m pl)
   callWith pos f first (q0m (yz [] X.env)) (backToKw pos (keywordEach [] X.env))):=by rfl):
  I_ (.Call (.Attribute o m apos) [] [] pos) (eL m 0 tb mo aL):=λc P1 s σ H Q I h=>by
 let⟨φ,δ,h,rh,re,p⟩:=h
 refine PySem.W.methodCall_KW (pl:=pl) (thn (ho c P1 s σ H _ I ⟨φ,δ,h,rh,re,post.bind p⟩) λu s1 hh=>?_) ht
 let⟨v,H1,I1,ru,φ1,x,h1,p1,t1,af,ag,q1⟩:=hh
 cases ei:pB x h1 with
 |none=>rw[ei]at q1;exact q1.elim
 |some z=>
  let⟨n',cn,fs⟩:=z
  rw[ei]at q1
  dsimp only at q1
  let⟨a,ca,dx,ks,rfl,rfl,hφ,hh,hc,hH,rk⟩:=vR af ag ei
  cases et:tb cn with
  |none=>rw[et]at q1;exact q1.elim
  |some f=>
   rw[et]at q1
   rcases tT rk m with⟨l1,l2⟩|⟨y,u',l1,_⟩
   ·rw[l1]at q1
    dsimp only at q1
    let⟨g,fd,ps,j,cl,me,hj,F,bd⟩:=hM cn ca f hc et
    have uf:Cls X.K ca:=by rw[c.K];exact cl
    have pj:HK X.K ca m g:=by rw[c.K];exact me
    have F':L_ CX0 j g fd ps (spM C (0+1) f):=by rw[c.K];exact F
    have k9:q0K []:=by rw[c.K];exact bd
    cases ru
    refine E4 I1 hH uf pj l2 ?_
    have q2:post C φ1 H1 (f [.ref n'] h1) Q:=q1
    exact PySem.W.callWith_K0 (first:=[.ref a]) I1.kIn pj.kp (HM (us:=[.ref a]) (vs:=[.ref a]) F' (c.room.mono hj) k9 .nil GI I1 (.cons rfl .nil) ⟨φ1,h1,[.ref n'],af,⟨⟨a,rfl,hφ⟩,trivial⟩,rfl,q2⟩)
   ·rw[l1]at q1;exact q1.elim
def pC(cn:Str)(n:Nat)(f:Fn)(ms:Ma):Me:=λδ h=>(ms δ h).bind λps h1=>if ps.length=n then(f (.ref h1.length::ps) (h1++[.ins cn []])).bind λv h2=>(match v with
 |.non=>.ok (.ref h1.length) h2
 |_=>.bad) else .bad
variable{ca:td}{cn:Str}{fn:Fn}{zs:z_ PV}
theorem NB{Q:VK}(hc:C.cl cn=a_ ca)(rh:K_ h)(rv:G_ zs vs)(q:P_ (if zs.length=n then(fn (.ref h.length::zs) (h++[.ins cn []])).bind λv h2=>(match v with|.non=>Rs.ok (.ref h.length) h2|_=>.bad) else .bad) Q):
  ∀y dx,H y=b_->H dx=b_->dx≠y->spM C (n+1) fn (.ref y::(vs++[])) (upd (Z_ dx (.own y)) y (.ins ca dx [])) (λv H2=>v=.non/\Q (.ref y) H2) E0:=λy dx hy hd ne=>by
 let⟨hl,q⟩:=q.ite;let gp:(Z_ dx (.own y)) y=b_:=by rw[bA (y1o ne)];show hy
 let k1:Kp H (Z_ dx (.own y)):=Kp.new hd;let k2:Kp (Z_ dx (.own y)) (upd (Z_ dx (.own y)) y (.ins ca dx [])):=Kp.new gp;let ao:RH C (φ++[y]) (upd (Z_ dx (.own y)) y (.ins ca dx [])) (h++[.ins cn []]):=(rh.aside hd).new gp ⟨ca,dx,[],hc,bP,.nil⟩;let xp:RV C (φ++[y]) (upd (Z_ dx (.own y)) y (.ins ca dx [])) (.ref h.length) (.ref y):=⟨y,rfl,by rw[<-rh.len];simp⟩;refine⟨φ++[y],h++[.ins cn []],.ref h.length::zs,ao,⟨xp,by rw[y1f];show rv.mono (zy _ _) (k1.trans k2)⟩,by simp[hl],?_⟩;refine(post.bind (post.weak (zy _ [y]) (k1.trans k2) q)).imp ?_;rintro v H2 ⟨φ2,pv,h2,p2,t2,cy,rv3,q3⟩;cases pv with
 |non=>cases rv3;show⟨rfl,q3.val cy (xp.mono p2 t2)⟩
 |_=>exact q3.elim
theorem Xl{k:Nat}{f:td}{p:Pos}(hc:C.cl cn=a_ ca)(M:Mk C.K ca f)(F:N_ f fd ps (spM C (n+1) fn))(hm:X.mg x=c_ ca)(bd:Binds C.K fd ps [])(ha:SA C k X (e::es) ms)(hj:j+1<=k:=by decide)(hg:Gl X x:=by rfl)(bo:(x == ("__debug__" : Str))=false:=by decide)(he:yz (e::es) X.env=(false,q0d 0)::q0e 0:=by rfl)(ar:(q0m (q0e 0)).any (·.1)=false:=by rfl):
  I_ (.Call (.Name x p) (e::es) [] pos) (pC cn n fn ms):=λc=>by
 let M':Mk X.K ca f:=by rw[c.K];show M
 let F':L_ CX0 j f fd ps (spM C (n+1) fn):=by rw[c.K];show F
 let k9:q0K []:=by rw[c.K];show bd
 refine(Tx M' F' (c.room.mono hj) hg hm k9 .nil GI (ha c) bo he ar).imp λσ H Q h=>?_;let⟨φ,δ,h,rh,re,po⟩:=h;refine⟨φ,δ,h,rh,re,(postA.bind po).imp ?_⟩;rintro vs H1 ⟨φ1,zs,h1,p1,t1,af,ag,q1⟩;show NB hc af ag q1
theorem rK{k:Nat}{f:td}{p:Pos}(hc:C.cl cn=a_ ca)(M:Mk C.K ca f)(F:N_ f fd ps (spM C (0+1) fn))(hm:X.mg x=c_ ca)(bd:Binds C.K fd ps [])(hj:j+1<=k:=by decide)(hg:Gl X x:=by rfl)(bo:(x == ("__debug__" : Str))=false:=by decide):I_ (.Call (.Name x p) [] [] pos) (pC cn 0 fn aL):=λc=>by
 let M':Mk X.K ca f:=by rw[c.K];show M
 let F':L_ CX0 j f fd ps (spM C (0+1) fn):=by rw[c.K];show F
 let k9:q0K []:=by rw[c.K];show bd
 refine(Q9 M' F' (c.room.mono hj) hg hm k9 .nil GI bo).imp λσ H Q h=>?_;let⟨φ,δ,h,rh,re,po⟩:=h;show NB (zs:=[]) hc rh trivial po
def sO(x y v:PV)(h:PH):A_ PH:=match x,y with
 |.ref n,.int i=>match iU h n with
  |some xs=>match ixN xs.length i with
   |some j=>a_ (h.set n (.lst (xs.set j v)))
   |none=>b_
  |none=>K2 x y v h
 |_,_=>K2 x y v h
def vS(mv mo mi:Me):Ms:=λδ h=>(mv δ h).fl λv h1=>(mo δ h1).fl λx h2=>(mi δ h2).fl λy h3=>match sO x y v h3 with
 |some h4=>.nx δ h4
 |none=>.bad
theorem M8{k:Nat}{h':PH}{pv:PV}{x:V}(c:q0j X)(rh:K_ h)(rx:E_ px x)(ry:E_ py y)(rv:E_ pv v)(e:sO px py pv h=a_ h'){Q:jn Unit}(I:Q_ s)(lg:q1e xu)(df:RelV y yu)(ij:RelV v vu)(q:∀s' H',j_ H' s'->Kp H H'->RH C φ H' h'->Q () s'):wpAny (g_ X) X.A (setItem xu yu vu) Q X.xe s:=by
 unfold sO at e;split at e
 ·rename_i n i;split at e
  ·rename_i xs el;split at e
   ·rename_i j ej;cases e
    let⟨a,rfl,ha⟩:=rx;cases ry
    let⟨ws,hH,cb⟩:=q0h (sH el);refine thn (set_list P1 s σ H (.ref a) (.int i) v xu yu vu (λH'=>H'=Z_ a (.lst (ws.set j v))) I lg df ij ⟨a,ws,i,j,rfl,rfl,hH,by rw[<-cb.length];show ej,rfl⟩) ?_;rintro _ s' ⟨H',I',rfl⟩;refine q s' _ I' (Kp.lst hH) (rh.write ha (by rw[hH];trivial) ⟨_,bP,(RVs.set rv j cb).mono yk (Kp.lst hH)⟩)
   ·cases e
  ·show He c rh rx ry rv e I lg df ij q
 ·show He c rh rx ry rv e I lg df ij q
theorem BD{k:Nat}{o i:x_}{mi:Me}(hv:I_ value mv)(ho:I_ o mo)(hi:I_ i mi)(hs:swapsWith value (a_ (.Subscript o i pos')) pos.line X.env=pure false:=by rfl):
  SSt C k X (.Assign [.Subscript o i pos'] value pos) (vS mv mo mi):=λc P1 s σ H D I ⟨φ,δ,h,rh,re,p⟩=>by
 refine wpAny_Assign_Subscript (thn (hv c P1 s σ H _ I ⟨φ,δ,h,rh,re,post.fl p⟩) ?_) hs;rintro vu s1 ⟨v,H1,I1,ij,φ1,pv,h1,p1,t1,af,ag,q1⟩;refine thn (ho c P1 s1 σ H1 _ I1 ⟨φ1,δ,h1,af,U_ 0,post.fl q1⟩) ?_;rintro xu s2 ⟨x,H2,I2,lg,φ2,px,h2,p2,t2,ao,cf,q2⟩;refine thn (hi c P1 s2 σ H2 _ I2 ⟨φ2,δ,h2,ao,(U_ 0).mono p2 t2,post.fl q2⟩) ?_;rintro yu s3 ⟨y,H3,I3,df,φ3,py,h3,p3,t3,cy,rv3,q3⟩;cases e:sO px py pv h3 with
 |none=>rw[e]at q3;show q3.elim
 |some h4=>rw[e]at q3;show M8 c cy (cf.mono p3 t3) rv3 ((ag.mono p2 t2).mono p3 t3) e I3 lg df ij λs' H' I' kp cg=>⟨σ,H',I',q3 φ3 σ H' yk kp cg ((((U_ 0).mono p2 t2).mono p3 t3).mono yk kp)⟩
theorem AJ{c:Str}{fs:z_ (Str×PV)}(e:h[n]?=a_ (.ins c fs)):pB (.ref n) h=a_ (n,c,fs):=by simp[pB,e]
theorem iV{c f:Str}{fs:z_ (Str×PV)}(e:h[n]?=a_ (.ins c fs))(l:fs.lookup f=a_ p):cW f (.ref n) h=.ok p h:=by simp[cW,AJ e,l]
theorem fH{c f:Str}{fs:z_ (Str×PV)}(e:h[n]?=a_ (.ins c fs))(l:fs.length<1000):yV f (.ref n) p h=a_ (h.set n (.ins c (iD f p fs))):=by simp[yV,AJ e,l]
@[simp]theorem IC{E:FE}{f:Str}:(mF f mo mv δ h).W E=(mv δ h).W λy h1=>(mo δ h1).W λx h2=>∃h3,yV f x y h2=a_ h3/\E.nx δ h3:=by
 unfold mF;rw[LW];congr 1;funext y h1;rw[LW];congr 1;funext x h2;cases e:yV f x y h2 <;> simp
@[simp]theorem fI{f:Fn}:pC cn n f ms δ h=(ms δ h).bind λps h1=>if ps.length=n then(f (.ref h1.length::ps) (h1++[.ins cn []])).bind λv h2=>(match v with|.non=>.ok (.ref h1.length) h2|_=>.bad) else .bad:=(rfl)
variable{mm:Str}
theorem bZ{k:Nat}{c:Str}{fs:z_ (Str×PV)}{f:Fn}(e:mo δ h=.ok (.ref k) h1)(g:h1[k]?=a_ (.ins c fs))(t:tb c=a_ f)(l:fs.lookup mm=b_):
  eL mm n tb mo ms δ h=(ms δ h1).bind λps h2=>if ps.length=n then f (.ref k::ps) h2 else .bad:=by
 unfold eL;rw[e,Rs.bind_ok,AJ g];simp only[t,l]
@[simp]theorem zaS{E:FE}{mi:Me}:(vS mv mo mi δ h).W E=(mv δ h).W λv h1=>(mo δ h1).W λx h2=>(mi δ h2).W λy h3=>∃h4,sO x y v h3=a_ h4/\E.nx δ h4:=by
 unfold vS;rw[LW];congr 1;funext v h1;rw[LW];congr 1;funext x h2;rw[LW];congr 1;funext y h3;cases e:sO x y v h3 <;> simp
theorem boot_reversed:y1J "reversed" = a_ (.type "reversed"):=by first|rfl|decide +kernel|kernel_rfl
def Hl:PV->PH->Rs PV:=λx h=>match sI x h with
 |some xs=>.ok (.ref h.length) (h++[.lst xs.reverse])
 |none=>.bad
theorem OQ(h:ItemsOf (Qu items) acc items.size):acc.toList=items.toList.reverse:=by
 apply y0D;intro i;by_cases hi:i<acc.size
 ·let e1:acc[i]?=a_ acc[i]:=by simp[hi]
  let h2:=h.2 i _ e1;let qf:i<items.size:=by rw[<-h.1];show hi
  rw[y0V,e1,List.getElem?_reverse (k_ qf),y15,y0V];show h2.symm
 ·let aw:¬ i<items.size:=by rw[<-h.1];show hi
  rw[y0V,y0h ⋯,y0U (by simp;omega)]
theorem OR{k:Nat}{p:Pos}{dz:Pos}(he:I_ e me)(hbL:("list" : Str)∈C.bs)(hbR:("reversed" : Str)∈C.bs)(hgL:Gl X "list" := by rfl)(hgR:Gl X "reversed" := by rfl)(bp:yz [e] X.env=(false,q0d 0)::yz [] X.env:=by rfl)(ar:(backTo dz (yz [] X.env)).any (·.1)=false:=by rfl)(oe:yz [.Call (.Name "reversed" p2) [e] [] dz] X.env=(false,eval (.Call (.Name "reversed" p2) [e] [] dz) X.env)::yz [] X.env:=by rfl)(sx:(q0m (yz [] X.env)).any (·.1)=false:=by rfl):
  I_ (.Call (.Name "list" p) [.Call (.Name "reversed" p2) [e] [] dz] [] pos) (mUn Hl me):=λc P1 s σ H Q I h=>by
 refine y0y (vG I hgL (c.bn _ hbL) PyProof.Rows.Boot.«list» ?_ nofun nofun);refine y1C ?_ oe sx;rw[oe]
 change F_ (spliced ((false,eval (.Call (.Name "reversed" p2) [e] [] dz) X.env)::q0m (yz [] X.env))) _ _ s
 refine Calls.spliced_cons ?_;refine y0y (vG I hgR (c.bn _ hbR) boot_reversed ?_ nofun nofun);let⟨φ,δ,h,rh,re,po⟩:=h;refine y1C (thn (Dz (he c) HL bp dz P1 s σ H (λvs H1=>∃x,vs=[x]/\r1 C Hl x H1 Q) I ⟨φ,δ,h,rh,re,(post.bind po).imp ?_⟩) λus s1 hh=>?_) bp ar
 ·rintro v H1 ⟨φ1,x,h1,p1,t1,af,ag,q1⟩;show⟨v,rfl,φ1,h1,x,af,ag,q1⟩
 let⟨vs,H1,I1,rv,x,rfl,φ1,h1,px,af,rx,q1⟩:=hh;let⟨u,rfl,ru⟩:=vals1 rv;unfold Hl at q1;cases es:sI px h1 with
 |none=>rw[es]at q1;show q1.elim
 |some xs=>
  rw[es]at q1;let⟨a,ws,rfl,sa,ra⟩:=Aw af rx es;cases ru
  let j4:SqL X.K H1 a ws:=by rw[c.K];show sa
  let⟨its,cb,pl,hz⟩:=I1.list j4;refine call_reversed_list pl.isList ?_
  change F_ (spliced (q0m (yz [] X.env))) _ _ _
  refine Calls.spliced_nil ?_;let hsz:its.toArray.size=its.length:=by simp
  let qd:a<(e_ s1):=let ⟨o,ho,_⟩:=pl.isList;yj ho;let hit:(s1.heap.push (revObj a ((its.toArray.size:Int)-1))).IsRevIter (e_ s1) a ((its.toArray.size:Int)-1):=⟨_,q0O 0,rfl,rfl⟩;let cm:(s1.heap.push (revObj a ((its.toArray.size:Int)-1))).IsList a its.toArray:=let ⟨o,ho,r⟩:=pl.isList;⟨o,yc _ ho,r⟩;refine G2 (s:={s1 with heap:=s1.heap.push (revObj a ((its.toArray.size:Int)-1))}) (I.ok.hd c.calm) hit cm (yt qd) (by rw[hsz,<-cb.length];show hz) λh' tk aj c' hk hS ah=>?_;let ea:=OQ ah;let fr:(e_ s1)<=(s1.heap.push (revObj a ((its.toArray.size:Int)-1))).objs.size:=by rw[y1x];show y09 _
  let kp:∀b o,s1.heap.get? b=a_ o->q0D 0=a_ o:=λb o e=>hk b o (yt (yj e)) (yc _ e);let I2:=I1.laid (a:=(s1.heap.push (revObj a ((its.toArray.size:Int)-1))).objs.size) (t':=tk) (o:=.lst ws.reverse) kp fr ⟨by rw[List.length_reverse];show hz,aj.toList,c',by
   rw[ea];let hr:∀{vs:z_ V}{us:z_ r_},bH vs us->bH vs.reverse us.reverse:=by
    intro vs us r
    induction r with
    |nil=>exact .nil
    |cons a t ih=>simp only[List.reverse_cons];show bH.append ih (.cons a .nil)
   simpa using hr cb,by rw[Array.toArray_toList];show hS⟩
  show⟨.ref (s1.heap.push (revObj a ((its.toArray.size:Int)-1))).objs.size,_,I2,rfl,q1.lnew af ra.reverse (I1.hok.fresh fr)⟩
theorem OS(e:h[n]?=a_ (.lst xs)):Hl (.ref n) h=.ok (.ref h.length) (h++[.lst xs.reverse]):=by simp[Hl,sI,cB,e]
section
variable{v:td}{es:q1m 0}
theorem Hm(hT:s.TypeIs (.ref dc) "dict")(hd:(dc == y0o)=false)(h1:q0y 0=a_ oc)(h2:oc.data=.dict es ep)(q:Q (.ref (e_ s)) {s with heap:=s.heap.push {cls:=.type "dict_keyiterator",data:=.fields #[.ref dc,.int 0 0,.int es.size 0,.int ep 0]} }):C_ (pyIter (.ref dc)) Q E s:=by
 refine wpAny_pyIter_slot hT F.slot_dict_iter (zm F.slot_dict_iter hT F.entry_dict_iter ?_ (F.args_dict_iter_1 _));unfold Builtin.«dict.__iter__»;refine xr ?_;unfold Builtin.Dict.dictSlotNone;refine xr (wpAny_notOrdered_dict hT ?_)
 change F_ (pure (y4 dc)) _ _ s
 refine xw ?_
 change F_ (y1j dc >>= _) _ _ s
 unfold y1j;rw[if_neg (by rw[hd];show yl)];refine xr (xw ?_);refine xr (y0l h1 h2 ?_);refine xr (y0t h1 h2 ?_);refine xr (zd (xw ⟨_,rfl,"dict_keyiterator",_,⟨_,q0O 0,rfl⟩,y0W.lookup,?_⟩));simpa[rawInt] using q
theorem Ke{Q:A_ r_->s_->Prop}(hI:s.heap.IsKeyIter it dc i es.size ep)(h1:q0y 0=a_ oc)(h2:oc.data=.dict es ep)(ak:i<es.size)(q:∀h',h'.IsKeyIter it dc (i+1) es.size ep->y1w it s.heap h'->Q (a_ es[i].key) {s with heap:=h'}):C_ (pyNext (.ref it)) Q E s:=by
 let⟨oi,g1,g2,g3⟩:=id hI;unfold pyNext;refine xr (y1N (z9 (name:=yi "__next__") hI.typeIs y0W (zm y0W hI.typeIs F.entry_dict_keyiterator_next ?_ (F.args_dict_keyiterator_next_1 _))));refine xr (xw (xr (xr ?_)))
 first|refine xr (y1q hI.typeIs (xw ?_))|refine xr (y1Z hI.typeIs (xw ?_))
 refine xr (y1R g1 g3 ?_);rw[show zl "dict_keyiterator" = false by decide];simp only[zb,if_false]
 change F_ (if(y4 dc == yp)=true then _ else _) _ _ s
 rw[if_neg (show ¬ ((y4 dc == yp)=true) from yl)]
 refine xr (xw (xr (y0l h1 h2 ?_)));rw[if_neg (show ¬ _ by simp)];refine xr (xw (xr (y0t h1 h2 ?_)));rw[if_neg (show ¬ _ by simp)];refine xw ?_;simp only[show ¬ ((i:Int)<0) by omega,if_false,y1a,y0N ak];refine xr ?_
 first|refine xr (y1q hI.typeIs (xw ?_))|refine xr (y1Z hI.typeIs (xw ?_))
 refine xr (wpAny_isOneOf_keyiter hI.typeIs (show F_ (setField (.ref it) 1 (rawInt ((i:Int)+1)) >>= _) _ _ s from xr (y1e g1 g3 (by simp) ?_)))
 let fh:(q0r (y0p (·.setIfInBounds 1 (rawInt ((i:Int)+1))))).IsKeyIter it dc (i+1) es.size ep:=⟨_,y0a _ g1 (y1i (y01 g3 _)),(Obj.cls_mapFields ..).trans g2,by rw[y01 g3];simp[rawInt]⟩;let iy:({s with heap:=q0r (y0p (·.setIfInBounds 1 (rawInt ((i:Int)+1))))}:s_).TypeIs (.ref it) "dict_keyiterator" := fh.typeIs;refine xr (y0c (xr (wpAny_isOneOf_keyiter iy ?_)))
 change F_ (pure es[i].key) _ _ _
 show xw (xw ⟨_,rfl,xw (q _ fh (zk ..))⟩)
theorem Kf{Q:A_ r_->s_->Prop}(hh:A.handled=b_)(hI:s.heap.IsKeyIter it dc i es.size ep)(h1:q0y 0=a_ oc)(h2:oc.data=.dict es ep)(ir:es.size<=i)(q:∀h',Heap.ExtBut it s.heap h'->Q b_ {s with heap:=h'}):C_ (pyNext (.ref it)) Q E s:=by
 let⟨oi,g1,g2,g3⟩:=id hI;unfold pyNext;refine xr (y1N (z9 (name:=yi "__next__") hI.typeIs y0W (zm y0W hI.typeIs F.entry_dict_keyiterator_next ?_ (F.args_dict_keyiterator_next_1 _))));refine xr (xw (xr (xr ?_)))
 first|refine xr (y1q hI.typeIs (xw ?_))|refine xr (y1Z hI.typeIs (xw ?_))
 refine xr (y1R g1 g3 ?_);rw[show zl "dict_keyiterator" = false by decide];simp only[zb,if_false]
 change F_ (if(y4 dc == yp)=true then _ else _) _ _ s
 rw[if_neg (show ¬ ((y4 dc == yp)=true) from yl)]
 refine xr (xw (xr (y0l h1 h2 ?_)));rw[if_neg (show ¬ _ by simp)];refine xr (xw (xr (y0t h1 h2 ?_)));rw[if_neg (show ¬ _ by simp)];refine xw ?_;simp only[show ¬ ((i:Int)<0) by omega,if_false,y1a,y0h ir];refine xr ?_
 first|refine xr (y1q hI.typeIs (xw ?_))|refine xr (y1Z hI.typeIs (xw ?_))
 refine(show F_ (setField (.ref it) 0 .none >>= _) _ _ s from xr (y1e g1 g3 (by simp) ?_))
 refine(show F_ (newExc (.type "StopIteration") [] >>= _) _ _ _ from xr ?_);simp only[newExc,newTuple]
 refine xr (zd (xr (m:=y1S _ _) (wpAny_of_eq (a:=yp) (by first|rfl|(simp only[y1S];rfl)) (zd ?_ (by size_fits)))) (by size_fits))
 simp only[raiseNew];refine xr (wpAny_handled ?_);rw[show A.in1.handled=b_ from hh]
 refine xr (xw (wpAny_throw ?_));refine xr (y2b (T:="StopIteration") (b:=true) ⟨_,q0O 0,rfl⟩ isSubtype_stop ?_);show xw (q _ (((zk ..).extBut.push _).push _))
theorem M9(hh:A.handled=b_)(I dc:td)(cq:dc≠I)(oc:Obj)(es:q1m 0)(ep:Nat)(h2:oc.data=.dict es ep):
  Walks prog w A I [I,dc] [I] es.size (λi v=>∃e,es[i]?=a_ e/\v=e.key) (λi h=>h.IsKeyIter I dc i es.size ep/\h.get? dc=a_ oc) where
 sub:=λb hb=>by rw[y0.mp hb];show ye
 frame:=λ_ _ _ st hk=>⟨let ⟨o,e,r⟩:=st.1;⟨o,hk I ye o e,r⟩,hk dc (yd _ ye) _ st.2⟩
 item:=λi s Q E hi st hQ=>Ke st.1 st.2 h2 hi λh' k7 d0=>hQ _ h' s.toks ⟨es[i],by simp[hi],rfl⟩ ⟨k7,(d0.2 dc cq).trans st.2⟩ λb o hb e=>(d0.2 b λz=>hb (by rw[z];show ye)).trans e
 done:=λs Q E st hQ=>Kf hh st.1 st.2 h2 (yg _) λh' e8=>hQ h' s.toks λb o hb e=>e8 b o (λz=>hb (by rw[z];show ye)) e
 self:=λ_ _ _ _ st hQ=>wpAny_pyIter_keyiter st.1 hQ
theorem Rl(hc:oc.cls=.type "dict")(hd:(dc == y0o)=false)(h2:oc.data=.dict es ep):PySem.W.KdlSrc prog w "dict" dc dc es.size (λi v=>∃e,es[i]?=a_ e/\v=e.key) (λh=>h.get? dc=a_ oc) where
 type:=λ_ hm=>⟨oc,hm,hc⟩
 there:=λ_ hm=>⟨yj hm,yj hm⟩
 keep:=λ_ _ hm hk=>hk dc (.inl rfl) _ hm
 notList:=by decide
 notTuple:=by decide
 hint:=λ_ _ _ _ hm hq=>PySem.W.kdl_hint_dict ⟨oc,hm,hc⟩ hq
 iter:=λ_ _ hh hm=>⟨_,_,(λ_ _ hq=>Hm ⟨oc,hm,hc⟩ hd hm h2 hq),M9 hh _ dc (yt (yj hm)) oc es ep h2,⟨⟨_,q0O 0,rfl,rfl⟩,yc _ hm⟩⟩
end
theorem Rm{k:Nat}{d:Nat}{b:td}(c:q0j X)(I:Q_ s)(rh:K_ h)(hb:φ[d]?=a_ b)(e:cO h d=a_ kvs):
  (b == y0o)=false/\kvs.length<=yo/\∃oc es ep,P2 0=a_ oc/\oc.cls=.type "dict" /\ oc.data=.dict es ep/\∃ws,G_ (kvs.map (·.1)) ws/\bH ws (es.toList.map (·.key)):=by
 let⟨⟨ks,ys,r,bu,hz,hm,dd⟩,_⟩:=vP I c.K c.w rh hb e;let hlen:kvs.length=ys.length:=(y0b r).trans (y0b bu);refine⟨hm,by rw[hlen];show hz,?_⟩;let⟨oc,es,ep,g1,g2,g3,g4,g5,g6⟩:=dd;refine⟨oc,es,ep,g1,g2.1,g3,ks.map (λq=>V.ref q.2.1),?_,?_⟩
 ·unfold RKd at r;clear bu hlen e
  induction r with
  |nil=>trivial
  |cons q t ih=>exact⟨q.2.2.1,ih⟩
 ·rw[g4,z7];clear r hlen hz g4 g5 g6
  induction bu with
  |nil=>exact .nil
  | @cons p q ps qs h t ih=>exact .cons (show RelV (.ref p.2.1) (y4 q.2.1) by rw[h.2.1];rfl) ih
theorem Mb{es:q1m 0}(h:ItemsOf (λi v=>∃e,es[i]?=a_ e/\v=e.key) acc es.size):acc.toList=es.toList.map (·.key):=by
 apply y0D;intro i;rw[yy,y0V,y0V];by_cases hi:i<acc.size
 ·let e1:acc[i]?=a_ acc[i]:=by simp[hi]
  let⟨e,h1,h2⟩:=h.2 i _ e1;rw[e1,h1,h2];rfl
 ·let aw:¬ i<es.size:=by rw[<-h.1];show hi
  rw[y0h ⋯,y0h ⋯];rfl
theorem Mc{k:Nat}(c:q0j X):gQ X (.type "list") (λxs H Q=>∃(φ:z_ td)(h:PH)(d:Nat)(b:td)(kvs:z_ (PV×PV)),xs=[.ref b]/\K_ h/\φ[d]?=a_ b/\cO h d=a_ kvs/\∀l ws,H l=b_->G_ (kvs.map (·.1)) ws->Q (.ref l) (Z_ l (.lst ws))):=by
 intro P1 s σ H xs us Q I r h;let⟨φ,h,d,b,kvs,rfl,rh,hb,ey,q⟩:=h;let⟨u,rfl,ru⟩:=vals1 r;cases ru
 let⟨hm,hz,oc,es,ep,g1,gc,g2,ws,r1,r2⟩:=Rm c I rh hb ey;let hn:es.size<=yo:=by
  let e1:=r1.length;let e2:ws.length=es.size:=by have:=r2.length;simpa using this
  rw[yh]at e1;rw[<-e2,<-e1];show hz
 refine PySem.W.kdl_call (Rl gc hm g2) (I.ok.hd c.calm) g1 hn λh' tk aj c' hk hS ah=>?_;let ea:=Mb ah;refine⟨.ref (e_ s),_,I.laid (t':=tk) (o:=.lst ws) hk (yg _) ⟨?_,aj.toList,c',by rw[ea];show r2,by rw[Array.toArray_toList];show hS⟩,rfl,q _ ws I.fresh r1⟩;rw[<-r1.length,yh];show hz
section
variable{k:Nat}
def EN:z_ PV->A_ (z_ Str)
 |[]=>a_ []
 |.str x::r=>(EN r).map (x::·)
 |_::_=>b_
def jnd(sep:Str):z_ Str->Str
 |[p]=>p
 |l=>y2I sep l
def Uz(sep:Str)(l:z_ Str):Nat:=l.toArray.foldl (·+·.length+sep.length) 0
def Xm(x:PV)(_:PH):Bool:=match x with
 |.str _=>true
 |_=>false
def Hn:PV->z_ PV->PH->Rs PV:=λx ps h=>match x,ps with
 |.str sep,[.ref n]=>match iU h n with
  |some ys=>match EN ys with
   |some zs=>if Uz sep zs<=yo/\(jnd sep zs).length<=yo then .ok (.str (jnd sep zs)) h else .bad
   |none=>.bad
  |none=>.bad
 |_,_=>.bad
theorem Ho{φ:z_ td}{H:Hp}:∀{ys:z_ PV}{zs:z_ Str}{vs:z_ V}{us:z_ r_},EN ys=a_ zs->G_ ys vs->bH vs us->∃l:z_ (Str×Tok),us=strValues l/\l.map (·.1)=zs
 |[],zs,[],us,e,_,ru=>by cases ru;cases e;show⟨[],rfl,rfl⟩
 |p::ys,zs,v::vs,us,e,r,ru=>by
  cases ru with
  | @cons _ u _ us' h t=>
   cases p with
   |str x=>
    unfold EN at e;cases e2:EN ys with
    |none=>rw[e2]at e;cases e
    |some zs'=>
     rw[e2]at e;cases e
     let⟨l,rfl,rfl⟩:=Ho e2 r.2 t;let e1:v=.str x:=r.1;subst e1;let⟨tk,rfl⟩:=h;show⟨(x,tk)::l,rfl,rfl⟩
   |_=>cases e
 |[],_,_::_,_,_,r,_=>r.elim
 |_::_,_,[],_,_,r,_=>r.elim
theorem UA(c:q0j X):MtR X "str.join" (rM C Hn):=λP1 s σ H x xs v us Q I rx rs h=>by
 let⟨φ,h,p,ps,rh,rp,ju,po⟩:=h;unfold Hn at po;split at po
 ·rename_i sep n;split at po
  ·rename_i ys hl;split at po
   ·rename_i zs hz;split at po
    ·rename_i hlen;let e1:x=.str sep:=rp;subst e1;let⟨tk,rfl⟩:=rx;let⟨v1,rfl,ag⟩:=ju.one;let⟨a,rfl,ha⟩:=ag;let⟨u,rfl,ru⟩:=vals1 rs;cases ru
     let hk:h[n]?=a_ (.lst ys):=by
      unfold iU at hl;split at hl
      ·rename_i q;cases hl;show q
      ·cases hl
     let⟨vs,hH,iq⟩:=q0h hk;let⟨_,its,m,ub,_,hx⟩:=I.lstM hH;let⟨l,rfl,el⟩:=Ho hz iq ub;let hq:Q (.str (jnd sep zs)) H:=R_ rfl;let htl:Builtin.Str.tooLong ((l.map (·.1)).toArray.foldl (·+·.length+sep.length) 0)=false:=by
      rw[el]
      change decide (Uz sep zs>yo)=false
      show decide_eq_false (by have:=hlen.1;omega)
     let isl:s.heap.IsList a (strValues l).toArray:=⟨_,hx,rfl,m,rfl⟩;refine call_meets PySem.F.slot_str_join (typeIs_str s sep tk) PySem.F.entry_str_join (PySem.F.args_str_join_2 _ _) (meets_str_join_list sep tk a l htl) ⟨isl,?_⟩;subst el;let cm:=hlen.2
     match l,hq,cm with
     |[],hq,cm=>exact⟨cm,.str _,H,q1v 0,⟨_,rfl⟩,hq⟩
     |[p],hq,cm=>exact⟨.str _,H,I,⟨_,rfl⟩,hq⟩
     |p::q::r,hq,cm=>exact⟨cm,.str _,H,q1v 0,⟨_,rfl⟩,hq⟩
    ·show po.elim
   ·show po.elim
  ·show po.elim
 ·show po.elim
theorem Xn:MtG C k X "str" Xm "str.join" Hn:=λc=>⟨UA c,λP1 s σ H φ h p x v I rh rv r e=>by
 cases p with
 |str z=>have e1:x=.str z:=rv;subst e1;let⟨t,rfl⟩:=r;show⟨typeIs_str s z t,λa e=>nomatch e⟩
 |_=>cases e⟩
end
def putD(x y:PV)(n:Nat)(h:PH):Rs PV:=if x.isKt=true then(match cO h n with
 |some kvs=>if kvs.length<yo then .ok (.ref n) (h.set n (.dD (lW kvs x y))) else .bad
 |none=>.bad) else .bad
def ID(mk mv:Me):Me:=λδ h=>(mk δ (h++[.dK []])).bind λx h2=>(mv δ h2).bind λy h3=>putD x y h.length h3
variable{mk:Me}
theorem UB{k:Nat}{ke:x_}{ve:x_}(hk:I_ ke mk)(hv:I_ ve mv):I_ (.Dict [a_ ke] [ve] pos) (ID mk mv):=λc P1 s σ H Q I ⟨φ,δ,h,rh,re,p⟩=>by
 refine wpAny_Dict_any rfl rfl (λz=>q0N 0) (by change 1<=15;decide) ?_;let fr:H (e_ s)=b_:=I.fresh;let I1:j_ (Z_ (e_ s) (.dK [])) {s with heap:=s.heap.push {cls:=.type "dict",data:=.dict #[]} }:=I.laid (a:=(e_ s)) (o:=.dK []) (t':=s.toks) (λ_ _ q=>yc _ q) (yg _) (JD s.heap I.big);let af:RH C (φ++[(e_ s)]) (Z_ (e_ s) (.dK [])) (h++[.dK []]):=rh.new fr ⟨[],bP,.nil⟩;let qq:=re.mono (zy φ [(e_ s)]) (Kp.new (o:=.dK []) fr);let o5:(φ++[(e_ s)])[h.length]?=a_ (e_ s):=by rw[<-rh.len];simp
 let p1:post C (φ++[(e_ s)]) (Z_ (e_ s) (.dK [])) (ID mk mv δ h) Q:=post.weak (zy _ _) (Kp.new fr) p;generalize (e_ s)=d at*;generalize φ++[d]=φ0 at*;refine evalPairs_cons (thn (hk c P1 _ σ _ _ I1 ⟨φ0,δ,_,af,qq,post.bind p1⟩) ?_);rintro ku s1 ⟨x,H1,I1',rku,φ1,px,h1,pf1,t1,ao,rx,q1⟩;refine xr (thn (hv c P1 s1 σ H1 _ I1' ⟨φ1,δ,h1,ao,qq.mono pf1 t1,post.bind q1⟩) ?_);rintro vu s2 ⟨y,H2,I2,ij,φ2,py,h2,pf2,t2,cy,ry,q2⟩;refine xr (wpAny_standAt (xw (evalPairs_nil ?_)));unfold putD at q2;split at q2
 ·rename_i tm;split at q2
  ·rename_i kvs ht;split at q2
   ·rename_i hl;let aq:φ2[h.length]?=a_ d:=lZ pf2 (lZ pf1 o5);let kz:=rx.mono pf2 t2;let⟨b,rfl⟩:=xR tm kz;cases rku
    let⟨⟨ks,xs,r,bu,hz,hm,dd⟩,mu,nt⟩:=vP I2 c.K c.w cy aq ht;let rm:(CJ X.prog X.w).room X.A:=by
     have:=c.hu64
     change X.A.units+6<cLine
     omega
    unfold storeAll;rw[List.forIn_cons];refine xr (xr (wpAny_dictSet_heap (hsz:=hz) rm (EC I2 c.K tm kz) dd λh' jv hs=>xw ?_));let⟨cw,r1,r2⟩:=HD.put (a:=d) r bu (DG tm) kz ry ij;let⟨o,es,ep,hq,g2,g3,g4,_,g5⟩:=jv;let cm:cw.length<=yo:=by let e1:=y0b r1;let e2:=R1 kvs px py;omega
    refine xw ⟨.ref d,upd H2 d (dDO C.w d cw),DB I2 mu hs ⟨o,hq⟩ ⟨⟨cm,hm,_,r2,o,es,ep,hq,g2,g3,?_,g5⟩,⟨o,hq⟩,?_⟩,rfl,?_⟩
    ·rw[g4,<-c.w];rfl
    ·rintro g1 g2 ⟨z1,z2,ws,z3,o',kg,ji,z4,z5⟩ keep;show⟨z1,z2,ws,z3,o',kg,ji,keep _ z4,z5⟩
    ·show q2 φ2 (.ref d) _ yk (Kp.upd nt) (cy.write aq nt ⟨cw,bP,RKd.mono yk (Kp.upd nt) r1⟩) ⟨d,rfl,aq⟩
   ·show q2.elim
  ·show q2.elim
 ·show q2.elim
section
variable{k:Nat}{o:Obj}{its:q0l 0}{ps:z_ PV}
def VT:PV->A_ V
 |.non=>a_ .non
 |.bl b=>a_ (.bl b)
 |.int i=>d_ i
 |.str z=>a_ (.str z)
 |_=>b_
def IE:z_ PV->A_ (z_ V)
 |[]=>a_ []
 |p::r=>match VT p,IE r with
  |some v,a_ vs=>a_ (v::vs)
  |_,_=>b_
theorem UC(e:VT p=a_ v):E_ p v:=by cases p <;> first|(cases e;rfl)|cases e
theorem Kg{φ:z_ td}{H:Hp}:∀{ps:z_ PV}{vs:z_ V},IE ps=a_ vs->G_ ps vs
 |[],vs,e=>by cases e;trivial
 |p::ps,vs,e=>by
  unfold IE at e;split at e
  ·rename_i v ws e1 e2;cases e
   show⟨UC e1,Kg e2⟩
  ·cases e
def Xo(K:yb)(a:td)(ps:z_ PV):Prop:=∃(o:Obj)(its:q0l 0)(n:Nat)(vs:z_ V),K.lookup a=a_ o/\o.cls=.type "tuple" /\ o.data=.seq its n/\its.size<=yo/\bH vs its.toList/\o.dict=b_/\IE ps=a_ vs
theorem Xp(hm:X.mg x=c_ a)(g:Xo C.K a ps)(hg:Gl X x:=by rfl)(hd:(x == ("__debug__" : Str))=false:=by decide):I_ (.Name x pos) (mC (.tup ps)):=λc=>(N6 (v:=.ref a) hg hm rfl hd).imp λσ H Q h=>by let⟨φ,δ,h,rh,re,p⟩:=h;let⟨o,its,n,vs,g1,g2,g3,g4,g5,g6,g7⟩:=g;show p φ (.ref a) H yk (Kp.refl _) rh ⟨a,vs,rfl,.inr ⟨o,its,n,g1,g2,g3,g4,g5,g6⟩,Kg g7⟩
end
theorem DH{z:PV}(e:cO h n=a_ kvs)(hk:(PV.tup xs).ky 6=true)(hl:kvs.length<16777216):sO (.ref n) (.tup xs) z h=a_ (h.set n (.dD (lW kvs (.tup xs) z))):=by
 change K2 (.ref n) (.tup xs) z h=_
 show Rf e hk hl
@[simp]theorem Yd:ID mk mv δ h=(mk δ (h++[.dK []])).bind λx h2=>(mv δ h2).bind λy h3=>putD x y h.length h3:=(rfl)
open PySem.SeqAt
variable{stored:z_ r_}{hN:Int}
section
theorem OT{Q:jn Int}(h:∀n tk,Q n { s with toks:=tk}):C_ (pyHash .none) Q E s:=by
 let hT:s.TypeIs .none "NoneType" := typeIs_none s;unfold pyHash;unfold pyHashByItsType;let hv:[yp].any Value.onHeap=false:=rfl;refine xr ?_;rw[cRoomFor,if_neg (by rw[hv];show yl)];refine xw ?_;refine xr (y0M hT y2u.lookup ?_)
 change F_ (if((a_ (Value.builtin "NoneType.__hash__"):A_ r_) == a_ yp)=true then _ else _) Q E s
 rw[if_neg (show ¬ _ from by rw[beq_builtin_none];decide)]
 refine xr (y0M hT y2u.lookup (show F_ (callSpecialIfBoundUnlessNone? yp "__hash__" _ >>= _) Q E s from ?_))
 refine xr (wpAny_callSpecialIfBoundUnlessNone?_slot hT y2u (zm y2u hT F.entry_NoneType_hash ?_ (F.args_NoneType_hash_1 _)));unfold Builtin.«NoneType.__hash__»;refine xr (m:=slotArgs "__hash__" 0 _) (wpAny_of_eq (a:=(yp,[])) (by rfl) ?_);refine wpAny_ret_mkInt ?_
 change F_ (if(decide (-(2:Int) ^ 63<=4238894112)&&decide ((4238894112:Int)<2 ^ 63))=true then _ else _) Q E _
 rw[if_pos nofun];show xw (h _ _)
variable{K:Type}[DecidableEq K]{knd:HeapKind prog w K}
theorem OU{Q:jn Bool}(bp:∀v∈stored,∃k' b,v=.ref b/\knd.is s.heap k' b)(h:Q false s):C_ (tableMayTell .none stored) Q E s:=by
 unfold tableMayTell;split
 ·show xw h
 ·refine xr (wpAny_of_eq (a:=true) (by rfl) ?_);simp only[Bool.not_true,zb,if_false];refine xr ?_;refine y2A _ (λrest r s'=>s'=s/\r=(b_,())/\∀v∈rest,∃k' b,v=.ref b/\knd.is s.heap k' b) _ ?_ ?_ _ _ ⟨rfl,rfl,bp⟩
  ·rintro x rest r s' ⟨rfl,rfl,hr⟩;let⟨k',b,rfl,hb⟩:=hr x ye;refine xr (knd.quiet hb ?_);simp only[Bool.not_true,zb,if_false];show xw ⟨rfl,rfl,λv hv=>hr v (yd _ hv)⟩
  ·rintro r s' ⟨rfl,rfl,_⟩;show xw h
theorem find_none{d:td}{o:Obj}{es:q1m 0}{xs:z_ (K×td×r_)}{Q:A_ Nat->s_->Prop}(ho:s.heap.get? d=a_ o)(hd:o.data=.dict es ep)(he:es.toList=xs.map (entryOfKey knd))(u0:∀x∈xs,knd.is s.heap x.1 x.2.1)(heq:∀x∈xs,EqAt A s (.ref x.2.1) .none false)(h:Q b_ s):C_ (dictFind d .none hN) Q E s:=by
 let hmem:∀e∈es,∃x∈xs,e=entryOfKey knd x:=by intro e ay;have:e∈xs.map (entryOfKey knd):=he▸Array.mem_toList_iff.mpr ay;let⟨x,hx,rfl⟩:=y6.mp this;show⟨x,hx,rfl⟩
 let bp:∀v∈(placesWithHash es.size (λi=>es[i]?.map (·.hash)) hN).filterMap (λi=>es[i]?.map (·.key)),∃k' b,v=.ref b/\knd.is s.heap k' b:=by
  intro v hv;let⟨i,_,hi⟩:=List.mem_filterMap.mp hv;cases hei:es[i]? with
  |none=>rw[hei]at hi;cases hi
  |some e=>
   rw[hei]at hi;obtain rfl:e.key=v:=by simpa using hi
   let⟨x,hx,rfl⟩:=hmem e (Array.mem_of_getElem? hei);show⟨x.1,x.2.1,rfl,u0 x hx⟩
 let ar:∀i∈placesWithHash es.size (λi=>es[i]?.map (·.hash)) hN,∃e,es[i]?=a_ e/\e.hash=hN:=by
  intro i hi;unfold placesWithHash at hi;let⟨_,h2⟩:=List.mem_filter.mp hi;dsimp only at h2;cases hei:es[i]? with
  |none=>rw[hei]at h2;simp at h2
  |some e=>rw[hei]at h2;show⟨e,rfl,k_ h2⟩
 unfold dictFind;refine y0c ?_;refine xr (y0l ho hd ?_);dsimp only;generalize hP:placesWithHash es.size (λi=>es[i]?.map (·.hash)) hN=P at bp ar;cases P with
 |nil=>rw[if_pos (by rfl)];unfold dictWalkPlain;show xr (xw (xw h))
 |cons p0 P0=>
  let je:¬ ((yp::((p0::P0).filterMap λi=>es[i]?.map (·.key))).all carriedByValue)=true:=by intro z;let⟨e,e1,e2⟩:=ar p0 ye;let hm:e.key∈(p0::P0).filterMap (λi=>es[i]?.map (·.key)):=List.mem_filterMap.mpr ⟨p0,ye,by rw[e1];rfl⟩;let⟨k',b,hb,_⟩:=bp _ hm;have:=y1.mp z _ (yd _ hm);rw[hb]at this;cases this
  rw[if_neg je];by_cases hone:(((p0::P0).filterMap λi=>es[i]?.map (·.key)) == [yp])=true <;>
  (first|rw[if_pos hone]|rw[if_neg hone]) <;> (first|refine xr (xw ?_)|refine xr (OU bp ?_)) <;> (
   rw[if_neg (by simp)];refine xr ?_;refine y2A _ (λrest b s'=>s'=s/\b=(b_,b_)/\∀i∈rest,∃e,es[i]?=a_ e/\e.hash=hN) _ ?_ ?_ _ _ ⟨rfl,rfl,ar⟩
   ·rintro x rest b s' ⟨rfl,rfl,hr⟩;let⟨e,e1,e2⟩:=hr x ye;let⟨y,hy,rfl⟩:=hmem e (Array.mem_of_getElem? e1);rw[e1];dsimp only;rw[if_pos (by rw[e2];simp)];refine xr (y0t ho hd (xr (heq y hy _ _ _ _ (xr (y0t ho hd ?_)))))
    change F_ (if(ep != ep)=true then _ else _) _ E _
    rw[if_neg (by simp)];simp only[zb,if_false];refine xr (wpAny_rule ?_)
    first|rw[if_neg (by simp)]|skip
    first
     |exact xw ⟨rfl,rfl,λi hi=>hr i (yd _ hi)⟩
     |exact xr (xw (xw ⟨rfl,rfl,λi hi=>hr i (yd _ hi)⟩))
   ·rintro b s' ⟨rfl,rfl,_⟩;show xw h)
theorem get_none{d:td}{xs:z_ (K×td×r_)}{Q:A_ r_->s_->Prop}(hm:s.heap.DictOfH knd d xs)(heq:∀tk,∀x∈xs,EqAt A { s with toks:=tk} (.ref x.2.1) .none false)(h:∀tk,Q b_ { s with toks:=tk}):
  C_ (dictGet d .none) Q E s:=by
 let⟨o,es,ep,ho,hc,hd,he,u0,hn⟩:=hm;unfold dictGet;refine y0c ?_;refine xr (OT λn tk=>xr (find_none (s:={ s with toks:=tk}) ho hd he u0 (heq tk) ?_));show xw (h tk)
theorem UD{d:td}{xs:z_ (K×td×r_)}(hd:(d == y0o)=false)(hm:s.heap.DictOfH knd d xs)(heq:∀tk,∀x∈xs,EqAt A.in1 { s with toks:=tk} (.ref x.2.1) .none false)(h:∀tk,Q (.bool false) { s with toks:=tk}):
  C_ (zc .In .none (.ref d)) Q E s:=by
 show F_ (do return .bool (<-contains (.ref d) .none)) Q E s
 refine xr ?_
 unfold contains
 try with_reducible refine y0c ?_
 refine xr (y0M hm.typeIs y1O.lookup ?_)
 show F_ (if(a_ (Value.builtin "dict.__contains__") == a_ yp)=true then _ else _) _ E s
 rw[if_neg (by rw[beq_builtin_none];exact yl)]
 refine xr (wpAny_callSpecialUnlessNone?_slot (name:=yi "__contains__") hm.typeIs y1O
  (zm y1O hm.typeIs entry_dict_contains ?_ (args_dict_contains _ _)))
 show F_ (dictGet d .none >>= _) _ _ s
 refine xr (get_none hm heq λtk=>?_)
 show F_ (Builtin.Dict.pendingKey? d .none >>= _) _ _ _
 exact xr (wpAny_pendingKey_other hd (xw ⟨_,rfl,y1U (xw (h tk))⟩))
theorem Mf{d:td}{xs:z_ (K×td×r_)}(hd:(d == y0o)=false)(hm:s.heap.DictOfH knd d xs)(heq:∀tk,∀x∈xs,EqAt A.in1 { s with toks:=tk} (.ref x.2.1) .none false)(h:∀tk,Q (.bool true) { s with toks:=tk}):
  C_ (zc .NotIn .none (.ref d)) Q E s:=by
 show F_ (do return .bool (!(<-contains (.ref d) .none))) Q E s
 refine xr ?_
 unfold contains
 try with_reducible refine y0c ?_
 refine xr (y0M hm.typeIs y1O.lookup ?_)
 show F_ (if(a_ (Value.builtin "dict.__contains__") == a_ yp)=true then _ else _) _ E s
 rw[if_neg (by rw[beq_builtin_none];exact yl)]
 refine xr (wpAny_callSpecialUnlessNone?_slot (name:=yi "__contains__") hm.typeIs y1O
  (zm y1O hm.typeIs entry_dict_contains ?_ (args_dict_contains _ _)))
 show F_ (dictGet d .none >>= _) _ _ s
 refine xr (get_none hm heq λtk=>?_)
 show F_ (Builtin.Dict.pendingKey? d .none >>= _) _ _ _
 exact xr (wpAny_pendingKey_other hd (xw ⟨_,rfl,y1U (xw (h tk))⟩))
end
section
variable{k:Nat}
theorem Zh:∀(n:Nat)(p:PV),p.ky n=true->p.pl n=true:=by
 intro n
 induction n with
 |zero=>intro p h;cases p <;> first|rfl|cases h
 |succ n ih=>
  intro p h;cases p with
  |tup xs=>
   change xs.all (PV.pl n)=true
   rw[y1];show λy hy=>ih y (y1.mp (show xs.all (PV.ky n)=true from h) y hy)
  |_=>first|rfl|cases h
theorem EO{P1:gV 0}{σ:St}{H:Hp}{s:s_}{φ:z_ td}{A:u_}(I:Q_ s)(hK:X.K=C.K)(hu:A.units+6<cLine):∀{kvs:z_ (PV×PV)}{ks:z_ (PV×td×V)}{xs:z_ (PV×td×r_)},q0V 0->Iu ks xs->(∀q∈kvs,q.1.isKt=true)->∀x∈xs,EqAt A s (.ref x.2.1) .none false
 |[],[],[],_,_,_=>λx hx=>nomatch hx
 |p::kvs,q::ks,y::xs,r,rx,hk=>by
  cases r with
  |cons h1 t1=>
   cases rx with
   |cons h2 t2=>
    intro x hx;rcases yr.mp hx with rfl|hx
    ·let⟨d,ph,hd2⟩:=tN 6 _ (Zh 6 _ h1.2.1);let hr:Rep X.K H d (.ref q.2.1):=by rw[hK];show h1.2.2.1.rep ph
     let gf:∃ds,d=.tup ds:=by
      have:=hk p ye;cases e:p.1 with
      |tup zs=>rw[e]at ph;let⟨ds,_,rfl⟩:=dQ ph;show⟨ds,rfl⟩
      |_=>rw[e]at this;cases this
     let⟨ds,rfl⟩:=gf;have:=Qk I (n:=6) (d:=.tup ds) (e:=.non) (A:=A) (x:=.ref q.2.1) (y:=.non) (v:=.ref x.2.1) (u:=.none) hd2 hu hr rfl (by rw[h2.2.1];rfl) rfl;simpa[eqD] using this
    ·show EO I hK hu t1 t2 (λz hz=>hk z (yd _ hz)) x hx
 |[],_::_,_,r,_,_=>nomatch r
 |_::_,[],_,r,_,_=>nomatch r
 |_,[],_::_,_,rx,_=>nomatch rx
 |_,_::_,[],_,rx,_=>nomatch rx
def mG:PV->PV->PH->Rs PV:=λx y h=>match x,y with
 |.non,.ref n=>match cO h n with
  |some kvs=>if kvs.all (λq=>q.1.isKt) then .ok (.bl false) h else .bad
  |none=>AD x y h
 |_,_=>AD x y h
def jD:PV->PV->PH->Rs PV:=λx y h=>match x,y with
 |.non,.ref n=>match cO h n with
  |some kvs=>if kvs.all (λq=>q.1.isKt) then .ok (.bl true) h else .bad
  |none=>kK x y h
 |_,_=>kK x y h
def Zi(C:MC):V->V->Hp->(Hp->Prop)->Prop:=λx y H R=>∃φ h n a kvs,K_ h/\x=.non/\y=.ref a/\φ[n]?=a_ a/\cO h n=a_ kvs/\(∀q∈kvs,q.1.isKt=true)/\R H
theorem Xq(c:q0j X):q0C (zc .In) (λx y H Q=>Zi C x y H λH=>Q (.bl false) H):=λP1 s σ H x y v u Q I rx ry h=>by
 let⟨φ,h,n,a,kvs,rh,rfl,rfl,ha,ht,hk,q⟩:=h;cases rx
 cases ry
 let⟨⟨ks,xs,r,bu,hz,hm,dd⟩,_⟩:=q0E 0;let hu:X.A.in1.units+6<cLine:=by have:=c.hu64;change X.A.units+1+6<cLine;omega
 show UD hm dd (λtk=>EO (I.tok tk) c.K hu r bu hk) λtk=>⟨.bl false,H,q1v 0,rfl,q⟩
theorem OV(c:q0j X):q0C (zc .NotIn) (λx y H Q=>Zi C x y H λH=>Q (.bl true) H):=λP1 s σ H x y v u Q I rx ry h=>by
 let⟨φ,h,n,a,kvs,rh,rfl,rfl,ha,ht,hk,q⟩:=h;cases rx
 cases ry
 let⟨⟨ks,xs,r,bu,hz,hm,dd⟩,_⟩:=q0E 0;let hu:X.A.in1.units+6<cLine:=by have:=c.hu64;change X.A.units+1+6<cLine;omega
 show Mf hm dd (λtk=>EO (I.tok tk) c.K hu r bu hk) λtk=>⟨.bl true,H,q1v 0,rfl,q⟩
theorem ER:q0o (zc .In) mG:=λc=>((Za c).or (Xq c)).imp λx y H Q h=>by
 let⟨φ,h,p,q,rh,rx,ry,po⟩:=h;unfold mG at po;split at po
 ·rename_i n;split at po
  ·rename_i kvs ht;split at po
   ·rename_i hk;let⟨a,rfl,ha⟩:=ry;show .inr ⟨φ,h,n,a,kvs,rh,rx,rfl,ha,ht,y1.mp hk,R_ rfl⟩
   ·show po.elim
  ·show .inl ⟨φ,h,_,_,rh,rx,ry,po⟩
 ·show .inl ⟨φ,h,_,_,rh,rx,ry,po⟩
theorem Hq:q0o (zc .NotIn) jD:=λc=>((QR c).or (OV c)).imp λx y H Q h=>by
 let⟨φ,h,p,q,rh,rx,ry,po⟩:=h;unfold jD at po;split at po
 ·rename_i n;split at po
  ·rename_i kvs ht;split at po
   ·rename_i hk;let⟨a,rfl,ha⟩:=ry;show .inr ⟨φ,h,n,a,kvs,rh,rx,rfl,ha,ht,y1.mp hk,R_ rfl⟩
   ·show po.elim
  ·show .inl ⟨φ,h,_,_,rh,rx,ry,po⟩
 ·show .inl ⟨φ,h,_,_,rh,rx,ry,po⟩
@[simp]theorem Hr{y:PV}:mG (.tup xs) y h=AD (.tup xs) y h:=by unfold mG;rfl
@[simp]theorem pT{y:PV}:mG (.str x) y h=AD (.str x) y h:=by unfold mG;rfl
@[simp]theorem AK{y:PV}:jD (.tup xs) y h=kK (.tup xs) y h:=by unfold jD;rfl
@[simp]theorem AL{y:PV}:jD (.str x) y h=kK (.str x) y h:=by unfold jD;rfl
theorem OW(e:cO h n=a_ kvs)(hk:kvs.all (λq=>q.1.isKt)=true):mG .non (.ref n) h=.ok (.bl false) h:=by simp[mG,e,hk]
end
def Rn:HO->Prop
 |.tup _=>False
 |.own _=>False
 |.tbl _=>False
 |_=>True
theorem Inv.swap{d:td}{u u':HO}(I:Q_ s)(hd:H d=a_ u)(hu:Rn u)(hz:∀o z,X.H₀ d≠a_ (.frz o z))(new:q0x (Z_ d u') s.heap d u'):j_ (Z_ d u') s:=by
 let nn:∀b,H b=b_->b≠d:=λb n z=>by rw[z,hd]at n;cases n
 let nt:∀b xs,H b=a_ (.tup xs)->b≠d:=λb xs n z=>by rw[z,hd]at n;cases n;show hu
 let no:∀b y,H b=a_ (.own y)->b≠d:=λb xs n z=>by rw[z,hd]at n;cases n;show hu
 let nb:∀b y,H b=a_ (.tbl y)->b≠d:=λb xs n z=>by rw[z,hd]at n;cases n;show hu
 refine⟨I.ok,I.os,I.bare,⟨I.base.keep,I.base.slot,λb o e n hx=>?_,I.base.there,λb xs e=>?_,λb o xs e=>?_,λb ps e=>?_⟩,I.loc,I.cell,?_,λx c e=>?_,λp hp=>?_,λb o e=>?_,I.len⟩
 ·have:=I.base.free b o e n hx;rw[bA (nn b this)];show this
 ·have:=I.base.tups b xs e;rw[bA (nt b xs this)];show this
 ·have:=I.base.frzs b o xs e;let ne:b≠d:=λz=>hz o xs (z▸e);rw[bA ne];show this
 ·let⟨m,e1⟩:=I.base.tbls b ps e;show⟨m,by rw[bA (nb b _ e1)];show e1⟩
 ·rw[bA (nn _ I.free)];show I.free
 ·have:=I.freeC x c e;rw[bA (nn _ this)];show this
 ·let⟨e,n,r⟩:=I.pin p hp;show⟨e,by rw[bA (nn _ n)];show n,r⟩
 ·by_cases hb:b=d
  ·subst hb;rw[bP]at e;cases e;show new
  ·rw[bA hb]at e;show(I.hok b o e).stay (λc v _ q=>q) (λc q=>by rw[bA (no c b q)];show q) λc xs q=>by rw[bA (nt c xs q)];show q
theorem Inv.nofrz{d:td}(I:Q_ s)(hd:∀o z,H d≠a_ (.frz o z)):∀o z,X.H₀ d≠a_ (.frz o z):=λo z e=>hd o z (I.base.frzs d o z e)
theorem Inv.freeze{d:td}{u:HO}(I:Q_ s)(hd:H d=a_ u)(hu:Rn u)(hf:∀o z,u≠.frz o z)(ho:s.heap.get? d=a_ oc):j_ (Z_ d (.frz oc u)) s:=by
 let nt:∀b xs,H b=a_ (.tup xs)->b≠d:=λb xs n z=>by rw[z,hd]at n;cases n;show hu
 let no:∀b y,H b=a_ (.own y)->b≠d:=λb xs n z=>by rw[z,hd]at n;cases n;show hu
 refine I.swap hd hu (I.nofrz λo z e=>?_) ⟨ho,(I.hok d u hd).stay (λc v _ q=>q) (λc q=>by rw[bA (no c d q)];show q) λc xs q=>by rw[bA (nt c xs q)];show q⟩;rw[hd]at e;show hf o z (yx e)
theorem Inv.thaw{d:td}{u:HO}(I:Q_ s)(hd:H d=a_ (.frz oc u))(hz:∀o z,X.H₀ d≠a_ (.frz o z)):j_ (Z_ d u) s:=by
 let nt:∀b xs,H b=a_ (.tup xs)->b≠d:=λb xs n z=>by rw[z,hd]at n;cases n
 let no:∀b y,H b=a_ (.own y)->b≠d:=λb xs n z=>by rw[z,hd]at n;cases n
 let⟨_,q⟩:=I.hok d _ hd;show I.swap hd trivial hz (q.stay (λc v _ q=>q) (λc q=>by rw[bA (no c d q)];show q) λc xs q=>by rw[bA (nt c xs q)];show q)
def ItI(dc:td)(oc:Obj)(u:HO)(ks:z_ (V×V)):It:=⟨λi H=>H dc=a_ (.frz oc u)/\i<ks.length,λi H x H'=>∃t kv,H t=b_/\ks[i]?=a_ kv/\x=.ref t/\H'=Z_ t (.tup [kv.1,kv.2]),λi H=>H dc=a_ (.frz oc u)/\ks.length<=i⟩
def ItK(dc:td)(oc:Obj)(u:HO)(ks:z_ V):It:=⟨λi H=>H dc=a_ (.frz oc u)/\i<ks.length,λi H x H'=>H'=H/\ks[i]?=a_ x,λi H=>H dc=a_ (.frz oc u)/\ks.length<=i⟩
variable{elts:z_ x_}{x1:Nat}
theorem Mh(it dc:td)(oc:Obj)(u:HO)(es:q1m 0)(ep:Nat)(h2:oc.data=.dict es ep)(ks:z_ (V×V))(hl:ks.length=es.size)(hk:∀(i:Nat)(hi:i<es.size),∃kv,ks[i]?=a_ kv/\RelV kv.1 es[i].key/\RelV kv.2 es[i].val):Turn P w K (.Tuple elts x1 pos) (ItI dc oc u ks) [it] it (λi h=>∃ok ov,IsItemIter h it dc i es.size ep ok ov) where
 mem:=by simp
 obj:=λi h ⟨ok,ov,st⟩ b hb=>by
  let e:b=it:=by simpa using hb
  subst e;show⟨_,st,λv z=>by cases z⟩
 keep:=λi h h' ⟨ok,ov,st⟩ k=>⟨ok,ov,k it (by simp) _ st⟩
 item:=by
  intro X hP hw hK hc i P1 s σ H E I hf ⟨ok,ov,st⟩ ⟨hg,hi⟩;subst hP hw hK;let aw:i<es.size:=⋯;let⟨kv,c8,r1,r2⟩:=hk i aw;let⟨f0,f1,f2,f3,f4,f5⟩:=hf it (by simp);let ig:q0y 0=a_ oc:=(I.hok dc _ hg).1;refine next_item st ig h2 aw λh' out gt kp=>⟨_,rfl,?_⟩;refine wpAny_letOwnedTupleGo_items (s:={s with heap:=h'}) out λjx hI same=>?_;let fr:H (e_ s)=b_:=I.hok.fresh (yg _);let ne:(e_ s)≠it:=y0x (yj st);let gt':jx.get? (e_ s)=a_ {cls:=.type "tuple",data:=.seq #[es[i].key,es[i].val]}:=(same.2 _ ne).trans gt;let ow:∀(b:td)(o:Obj),b≠it->P2 0=a_ o->jx.get? b=a_ o:=λb o hb e=>(same.2 b hb).trans (kp b o hb e);let m9:∀b u,H b=a_ u->b≠it:=λb u e z=>by rw[z,f0]at e;cases e
  let nj:∀b u,H b=a_ u->b≠(e_ s):=λb u e z=>by rw[z,fr]at e;cases e
  refine⟨.ref (e_ s),Z_ (e_ s) (.tup [kv.1,kv.2]),?_,rfl,⟨_,kv,fr,c8,rfl,rfl⟩,⟨_,_,hI⟩,λb hb=>?_⟩
  ·refine Inv.step (s:=s) (h':=jx) (H:=H) (g':=s.gens) (d':=s.drawn) (t':=s.toks) (ch:=[it]) I (λb hb=>?_) (λb o _ _ hc e _=>ow b o (λz=>hc (by simp[z])) e) (λb o _ _ hc e _=>⟨o.slots,ow b o (λz=>hc (by simp[z])) e⟩) (λb o hc e n=>?_)
    (λb o hc e=>⟨o,ow b o (λz=>hc (by simp[z])) e⟩) (λb xs e=>by rw[bA (nj _ _ e)];show e) (λb o u e=>by rw[bA (nj _ _ e)];show e) (λb ps e=>⟨#[],by rw[bA (nj _ _ e),e];simp⟩) (λm hm=>?_) (λb u e=>?_) I.bare
   ·let e:b=it:=by simpa using hb
    subst e;show⟨f3,f1,f4,f5⟩
   ·rw[bA (yt (yj e))];show n
   ·let⟨o,es,ep,ho,r⟩:=hm;show⟨o,es,ep,ow _ o (y1o f1) ho,r⟩
   ·by_cases hb:b=(e_ s)
    ·subst hb;rw[bP]at e;cases e
     show⟨by change 2<=yo;rw[pI];decide,[es[i].key,es[i].val],.cons r1 (.cons r2 .nil),_,gt',rfl,⟨_,rfl⟩,rfl⟩
    ·rw[bA hb]at e;refine(I.hok b u e).stay (λc v hc q=>ow c v ?_ q) (λc q=>by rw[bA (nj _ _ q)];show q) λc xs q=>by rw[bA (nj _ _ q)];show q
     rcases hc with z|z
     ·rw[z];show m9 b u e
     ·show m9 c _ z
  ·let e:b=it:=by simpa using hb
   subst e;rw[bA (y1o ne)];show f0
 done:=by intro X hP hw hK hc i P1 s σ H E I hf ⟨ok,ov,st⟩ ⟨hg,hi⟩;subst hP hw hK;let⟨f0,f1,f2,f3,f4,f5⟩:=hf it (by simp);let ig:q0y 0=a_ oc:=(I.hok dc _ hg).1;show Ov (I.ok.hd hc) st ig h2 ⋯ λh' eb=>⟨rfl,I.turned (t':=s.toks) (λb o hb e=>eb b o hb e) f0 f1 f3 f4 f5⟩
 self:=λ_ _ _ _ _ ⟨_,_,st⟩ h=>LN st h
theorem OX(it dc:td)(oc:Obj)(u:HO)(es:q1m 0)(ep:Nat)(h2:oc.data=.dict es ep)(ks:z_ V)(hl:ks.length=es.size)(hk:∀(i:Nat)(hi:i<es.size),∃kv,ks[i]?=a_ kv/\RelV kv es[i].key):Turn P w K tg (ItK dc oc u ks) [it] it (λi h=>h.IsKeyIter it dc i es.size ep) where
 mem:=by simp
 obj:=λi h st b hb=>by
  let e:b=it:=by simpa using hb
  subst e;let⟨o,e,c,d⟩:=st;show⟨o,e,λv z=>by rw[d]at z;cases z⟩
 keep:=λi h h' st k=>st.at λo e=>k it (by simp) o e
 item:=by
  intro X hP hw hK hc i P1 s σ H E I hf st ⟨hg,hi⟩;subst hP hw hK;let aw:i<es.size:=⋯;let⟨kv,c8,r1⟩:=hk i aw;let⟨f0,f1,f2,f3,f4,f5⟩:=hf it (by simp);let ig:q0y 0=a_ oc:=(I.hok dc _ hg).1;refine Ke st ig h2 aw λh' b7 sb=>?_;let I1:Q_ {s with heap:=h'}:=I.turned (t':=s.toks) (λb o hb e=>(sb.2 b hb).trans e) f0 f1 f3 f4 f5;let⟨o,e,c,d⟩:=id b7;show⟨_,rfl,N7 (s:={s with heap:=h'}) e c d nofun ⟨kv,H,I1,r1,⟨rfl,c8⟩,b7,λb hb=>(hf b hb).1⟩⟩
 done:=by intro X hP hw hK hc i P1 s σ H E I hf st ⟨hg,hi⟩;subst hP hw hK;let⟨f0,f1,f2,f3,f4,f5⟩:=hf it (by simp);let ig:q0y 0=a_ oc:=(I.hok dc _ hg).1;show Kf (I.ok.hd hc) st ig h2 ⋯ λh' eb=>⟨rfl,I.turned (t':=s.toks) (λb o hb e=>eb b o hb e) f0 f1 f3 f4 f5⟩
 self:=λ_ _ _ _ _ st h=>wpAny_pyIter_keyiter st h
def qG:MO->A_ (z_ PV)
 |.dK kvs=>a_ (kvs.map λkv=>.tup [kP kv.1,kv.2])
 |.dD kvs=>a_ (kvs.map λkv=>.tup [kv.1,kv.2])
 |_=>b_
def Kh:MO->A_ (z_ PV)
 |.dK kvs=>a_ (kvs.map λkv=>kP kv.1)
 |.dD kvs=>a_ (kvs.map (·.1))
 |_=>b_
def ES:A_ MO->Bool
 |some (.dK _)=>true
 |some (.dD _)=>true
 |_=>false
def wkI(b:Bool)(x:PV)(h:PH):A_ (Nat×MO×z_ PV):=match x with
 |.ref n=>match h[n]? with
  |some (.vw 0 d)=>if b then(h[d]?).bind λo=>(qG o).map λxs=>(d,o,xs) else b_
  |some o=>(Kh o).map λxs=>(n,o,xs)
  |none=>b_
 |_=>b_
def Hs(b:Bool)(m:Me):Mi:=λδ h=>(m δ h).bind λx h1=>match wkI b x h1 with
 |some (d,o,xs)=>.ok ⟨xs,λ_=>true⟩ (h1.set d (.fz o))
 |none=>.bad
theorem Xr{k:Key}{v:r_}(h:Ct k v=true):RelV (kV k) v:=by
 rcases dU h with⟨i,t,rfl,rfl⟩|⟨x,t,rfl,rfl⟩
 ·show⟨t,rfl⟩
 ·show⟨t,rfl⟩
theorem BE{α β:Type}{F:α->β->Prop}:∀{l:z_ α}{m:z_ β},Paired F l m->∀{i:Nat}{a:α},l[i]?=a_ a->∃b,m[i]?=a_ b/\F a b
 |_,_,.nil,i,a,e=>by simp at e
 |_,_,.cons (a:=x) (b:=y) r t,0,a,e=>by
  have:x=a:=by simpa using e
  subst this;show⟨y,rfl,r⟩
 |_,_,.cons r t,i+1,a,e=>by
  let⟨b,h1,h2⟩:=BE t (i:=i) (a:=a) (k_ e);show⟨b,k_ h1,h2⟩
theorem zN{α β:Type}{F:α->β->Prop}:∀{l:z_ α}{m:z_ β},Paired F l m->∀{i:Nat}{b:β},m[i]?=a_ b->∃a,l[i]?=a_ a/\F a b
 |_,_,.nil,i,a,e=>by simp at e
 |_,_,.cons (a:=x) (b:=y) r t,0,b,e=>by
  have:y=b:=by simpa using e
  subst this;show⟨x,rfl,r⟩
 |_,_,.cons r t,i+1,b,e=>by
  let⟨a,h1,h2⟩:=zN t (i:=i) (b:=b) (k_ e);show⟨a,k_ h1,h2⟩
theorem NC(a:Key):E_ (kP a) (kV a):=by cases a <;> rfl
theorem Ro{kvs:z_ (Key×PV)}{ks:z_ (Key×V)}(rk:q0Z kvs ks):G_ (kvs.map λkv=>kP kv.1) ((ks.map λq=>(kV q.1,q.2)).map (·.1)):=by
 unfold RKv at rk
 induction rk with
 |nil=>trivial
 | @cons p q ps qs e t ih=>exact⟨by change E_ (kP p.1) (kV q.1);rw[e.1];show NC q.1,ih⟩
theorem Rp(rk:q0V 0):G_ (kvs.map (·.1)) ((ks.map λq=>(V.ref q.2.1,q.2.2)).map (·.1)):=by
 unfold RKd at rk
 induction rk with
 |nil=>trivial
 | @cons p q ps qs e t ih=>exact⟨e.2.2.1,ih⟩
structure Zj(C:MC)(φ:z_ td)(H:Hp)(s:s_)(b:td)(o:MO)(ks:z_ (V×V))(u:HO)(oc:Obj)(es:Array y0A)(ep:Nat):Prop where
 at':H b=some u
 nf:Rn u
 nz:∀o z,u≠.frz o z
 nt:CG (some u)
 get:s.heap.get? b=some oc
 cls:oc.cls=.type "dict"
 data:oc.data=.dict es ep
 nsys:(b == y0o)=false
 fz:∀φ' H',φ<+:φ'->H' b=some (.frz oc u)->Kp H H'->RO C φ' H' b (.fz o)
 len:ks.length=es.size
 ent:∀(i:Nat)(hi:i<es.size),∃kv,ks[i]?=some kv/\RelV kv.1 es[i].key/\RelV kv.2 es[i].val
 keys:∀xs,Kh o=some xs->RVs C φ H xs (ks.map (·.1))
 items:∀xs,qG o=some xs->xs.length=ks.length/\∀(i:Nat) p,xs[i]?=some p->∃p1 p2 kv,p=.tup [p1,p2]/\ks[i]?=some kv/\RV C φ H p1 kv.1/\RV C φ H p2 kv.2
theorem ND{k:Nat}{d:Nat}{b:td}(c:q0j X)(I:Q_ s)(rh:K_ h)(hb:φ[d]?=a_ b)(ho:h[d]?=a_ o)(hd:ES (a_ o)=true):∃ks u oc es ep,Zj C φ H s b o ks u oc es ep:=by
 cases o with
 |dK kvs=>
  let⟨ks,hH,rk⟩:=rh.at' d b _ hb ho;let⟨z,hm,vs,rel,dd⟩:=JB I.hok hH;let⟨oc,es,ep,g1,g2,g3,g4,g5,g6⟩:=dd;let l1:ks.length=vs.length:=y0b rel;let l2:es.size=vs.length:=by have:=EG g5;have:=congrArg y2i this;simpa using this
  refine⟨ks.map λq=>(kV q.1,q.2),_,oc,es,ep,hH,trivial,(λ_ _ e=>by cases e),trivial,g1,g2.1,g3,hm,λφ' H' p e t=>⟨oc,ks,e,rk.mono p t⟩,by rw[yh,l1,l2],λi hi=>?_,λxs hx=>?_,λxs hx=>?_⟩
  ·let hv:vs[i]?=a_ (vs[i]'⋯):=by simp[show i<vs.length by omega]
   let he:es.toList[i]?=a_ es[i]:=by simp[hi]
   let⟨q1,q2⟩:=g5.get? he hv;let⟨kv,c8,j0⟩:=zN rel hv;refine⟨(kV kv.1,kv.2),by rw[yy,c8];rfl,?_,?_⟩
   ·change RelV (kV kv.1) es[i].key
    rw[j0.1];show Xr q1
   ·change RelV kv.2 es[i].val
    rw[q2];show j0.2
  ·cases hx
   show Ro rk
  ·cases hx
   let lk:kvs.length=ks.length:=y0b rk;refine⟨by rw[yh,yh,lk],λi p e=>?_⟩;rw[yy]at e;let⟨kv,e1,rfl⟩:=zq.mp e;let⟨q,e2,r2⟩:=BE rk e1;show⟨_,_,(kV q.1,q.2),rfl,by rw[yy,e2];rfl,by change E_ (kP kv.1) (kV q.1);rw[r2.1];show NC q.1,r2.2⟩
 |dD kvs=>
  let⟨ks,hH,rk⟩:=rh.at' d b _ hb ho;let hO:q0x H s.heap b (dDO C.w b ks):=I.hok b _ hH;let⟨⟨hz,hm,xs,rx,oc,es,ep,g1,g2,g3,g4,g5⟩,_⟩:=hO;let l1:ks.length=xs.length:=y0b rx;let l2:es.size=xs.length:=by have:=congrArg y2i g4;simpa using this
  refine⟨ks.map λq=>(V.ref q.2.1,q.2.2),_,oc,es,ep,hH,trivial,(λ_ _ e=>by cases e),trivial,g1,g2.1,g3,hm,λφ' H' p e t=>⟨oc,ks,e,rk.mono p t⟩,by rw[yh,l1,l2],λi hi=>?_,λxs hx=>?_,λxs hx=>?_⟩
  ·let hv:xs[i]?=a_ (xs[i]'⋯):=by simp[show i<xs.length by omega]
   let he:es.toList[i]?=a_ es[i]:=by simp[hi]
   rw[g4,yy,hv]at he;let e8:=yx he;let⟨kv,c8,j0⟩:=zN rx hv;refine⟨(V.ref kv.2.1,kv.2.2),by rw[yy,c8];rfl,?_,?_⟩
   ·change RelV (V.ref kv.2.1) es[i].key
    rw[<-e8,j0.2.1];rfl
   ·change RelV kv.2.2 es[i].val
    rw[<-e8];show j0.2.2
  ·cases hx
   show Rp rk
  ·cases hx
   let lk:kvs.length=ks.length:=y0b rk;refine⟨by rw[yh,yh,lk],λi p e=>?_⟩;rw[yy]at e;let⟨kv,e1,rfl⟩:=zq.mp e;let⟨q,e2,r2⟩:=BE rk e1;show⟨_,_,(V.ref q.2.1,q.2.2),rfl,by rw[yy,e2];rfl,r2.2.2.1,r2.2.2.2⟩
 |_=>cases hd
theorem Rq(h:Kh o=a_ xs):ES (a_ o)=true:=by cases o <;> first|rfl|cases h
theorem Ht(h:qG o=a_ xs):ES (a_ o)=true:=by cases o <;> first|rfl|cases h
theorem UE{x:PV}{d:Nat}(e:wkI b x h=a_ (d,o,xs)):∃n,x=.ref n/\((h[n]?=a_ (.vw 0 d)/\b=true/\h[d]?=a_ o/\qG o=a_ xs)\/(h[n]?=a_ o/\n=d/\Kh o=a_ xs)):=by
 unfold wkI at e;split at e
 ·rename_i n;refine⟨n,rfl,?_⟩;split at e
  ·rename_i d' hv;split at e
   ·rename_i hb;cases e1:h[d']? with
    |none=>rw[e1]at e;cases e
    |some o'=>
     rw[e1]at e;cases e2:qG o' with
     |none=>simp[e2]at e
     |some ys=>simp[e2]at e;let⟨rfl,rfl,rfl⟩:=e;show .inl ⟨hv,hb,e1,e2⟩
   ·cases e
  ·rename_i o' _ hv;cases e2:Kh o' with
   |none=>rw[e2]at e;cases e
   |some ys=>rw[e2]at e;simp at e;let⟨rfl,rfl,rfl⟩:=e;show .inr ⟨hv,rfl,e2⟩
  ·cases e
 ·cases e
def walk2(b:Bool)(x:PV)(h1:PH):Rs Wk:=match wkI b x h1 with
 |some (d,o,xs)=>.ok ⟨xs,λ_=>true⟩ (h1.set d (.fz o))
 |none=>.bad
theorem Xs{k:Nat}(b:Bool)(hb:b=true->∃elts x1 pos,tg=.Tuple elts x1 pos)(h:I_ iter m):SI C k X tg iter (Hs b m):=λc=>by
 intro P1 s σ H R I q;let⟨φ,δ,hh,rh,re,p⟩:=q;let key:rd C m σ H λv H1=>∃φ1 x h1,φ<+:φ1/\Kp H H1/\q0z 0/\RV C φ1 H1 x v/\mB C φ1 H1 (walk2 b x h1) R:=by
  refine⟨φ,δ,hh,rh,re,?_⟩;unfold Hs at p;cases e:m δ hh with
  |ok x h1=>
   rw[e]at p;intro φ' v H' p' t' cg bt;refine⟨φ',x,h1,p',t',cg,bt,?_⟩
   change mB C φ' H' (walk2 b x h1) R
   let p0:mB C φ H (walk2 b x h1) R:=p;cases e2:walk2 b x h1 with
   |ok w h2=>rw[e2]at p0;show λφ2 H2 J p2 t2=>p0 φ2 H2 J (p'.trans p2) (t'.trans t2)
   |exc z h2=>rw[e2]at p0;show λφ2 H2 p2 t2=>p0 φ2 H2 (p'.trans p2) (t'.trans t2)
   |bad=>rw[e2]at p0;show p0
  |exc x h1=>rw[e]at p;show p
  |bad=>rw[e]at p;show p
 refine thn (h c P1 s σ H _ I key) λv s1 hz=>?_;let⟨x,H1,I1,r1,φ1,x',h1,p1,t1,af,ag,q1⟩:=hz;unfold walk2 at q1;cases e:wkI b x' h1 with
 |none=>rw[e]at q1;show q1.elim
 |some t=>
  let⟨d,o,xs⟩:=t;rw[e]at q1;dsimp only at q1;let⟨n,rfl,pb⟩:=UE e;let⟨a,rfl,ha⟩:=ag;cases r1
  -- the frozen heap
  let fin:∀{bb:td}{ks:z_ (V×V)}{u:HO}{oc:Obj}{es:q1m 0}{ep:Nat}(k5:φ1[d]?=a_ bb)(W:Zj C φ1 H1 s1 bb o ks u oc es ep)(ob:Obj)(J:It)(tn:Nat->v_->Prop),(∀φ2 H2 h2,φ1<+:φ2->Kp (upd H1 bb (.frz oc u)) H2->RH C φ2 H2 h2->∀i:Nat,
    (i<xs.length->J.go i H2/\∀x H',J.yld i H2 x H'->(∃p,xs[i]?=a_ p/\RV C φ2 H' p x)/\Kp H2 H'/\RH C φ2 H' h2)/\(xs.length<=i->J.stop i H2))->
    Turn X.prog X.w X.K tg J [(e_ s1)] (e_ s1) tn->tn 0 (s1.heap.push ob)->PIE X P1 σ tg R (.ref (e_ s1)) {s1 with heap:=s1.heap.push ob}:=λ{bb ks u oc es ep} k5 W ob J tn hJ hT h0=>by
   let I2:=I1.freeze W.at' W.nf W.nz W.get;let nt:CG (H1 bb):=by rw[W.at'];show W.nt
   refine⟨(e_ s1),[(e_ s1)],tn,J,upd H1 bb (.frz oc u),rfl,I2.kept (t':=s1.toks) λb o e=>yc _ e,hT,h0,λb hb=>?_,?_⟩
   ·let e:b=(e_ s1):=by simpa using hb
    subst e;show I2.fpOk (yg _) (I2.hok.fresh (yg _))
   ·show q1 φ1 _ J yk (Kp.upd nt) (af.write k5 nt (W.fz φ1 _ yk bP (Kp.upd nt))) λφ2 H2 h2 p2 t2 ao _ i=>hJ φ2 H2 h2 p2 t2 ao i
  rcases pb with⟨hv,hbt,ho,hx⟩|⟨ho,rfl,hx⟩
  ·let⟨bb,k5,hH⟩:=af.at' n a _ ha hv;let⟨ks,u,oc,es,ep,W⟩:=ND c I1 af k5 ho (Ht hx);let⟨elts,x1,pos,rfl⟩:=hb hbt;let gj:s1.heap.IsItemsView a bb:=(I1.hok a _ hH).1;let⟨lx,ex⟩:=W.items xs hx;refine En gj W.get W.data (fin k5 W _ (ItI bb oc u ks) _ (λφ2 H2 h2 p2 t2 ao i=>⟨λhi=>⟨⟨t2.2 _ _ _ bP,⋯⟩,λx H' y=>?_⟩,λhi=>⟨t2.2 _ _ _ bP,⋯⟩⟩) (Mh _ bb oc u es ep W.data ks W.len W.ent) ⟨.none,.none,q0O 0⟩);let⟨t,kv,ht,c8,rfl,rfl⟩:=y;let⟨p1,p2',kv',epp,g9,rp1,pd⟩:=ex i xs[i] (by simp[hi]);rw[c8]at g9;cases g9
   let nt:CG (H1 bb):=by rw[W.at'];show W.nt
   let T:Kp H1 (upd H2 t (.tup [kv.1,kv.2])):=(Kp.upd nt).trans (t2.trans (Kp.new ht));refine⟨⟨xs[i],by simp[hi],?_⟩,Kp.new ht,ao.aside ht⟩;rw[epp];show⟨t,[kv.1,kv.2],rfl,.inl (.inl bP),rp1.mono p2 T,pd.mono p2 T,trivial⟩
  ·let⟨ks,u,oc,es,ep,W⟩:=ND c I1 af ha ho (Rq hx);let rk:=W.keys xs hx;let lx:=rk.length;rw[yh]at lx;refine Hm ⟨oc,W.get,W.cls⟩ W.nsys W.get W.data (fin ha W _ (ItK a oc u (ks.map (·.1))) _ (λφ2 H2 h2 p2 t2 ao i=>⟨λhi=>⟨⟨t2.2 _ _ _ bP,by rw[yh];omega⟩,λx H' y=>?_⟩,λhi=>⟨t2.2 _ _ _ bP,by rw[yh];omega⟩⟩) (OX _ a oc u es ep W.data (ks.map (·.1)) (by rw[yh];show W.len) λi hi=>?_) ⟨_,q0O 0,rfl,rfl⟩)
   ·let⟨rfl,ey⟩:=y;let nt:CG (H1 a):=by rw[W.at'];show W.nt
    let⟨p,ji,rp⟩:=rk.get ey;show⟨⟨p,ji,rp.mono p2 ((Kp.upd nt).trans t2)⟩,Kp.refl _,ao⟩
   ·let⟨kv,c8,r1,_⟩:=W.ent i hi;show⟨kv.1,by rw[yy,c8];rfl,r1⟩
theorem RH.writeQ(r:K_ h){u:HO}(e:φ[n]?=a_ a)(t:Kq H (Z_ a u))(q:RO C φ (Z_ a u) a o):RH C φ (Z_ a u) (h.set n o):=by
 refine⟨by rw[y0k];show r.len,r.nd,λm b ob h1 h2=>?_⟩;by_cases hm:n=m
 ·subst hm;rw[e]at h1;cases h1;let hl:n<h.length:=by rw[<-r.len];show(xt.mp e).1
  rw[y0g hl]at h2;cases h2
  show q
 ·rw[y0i hm]at h2;let hb:b≠a:=λz=>by subst z;show hm ((List.getElem?_inj (xt.mp e).1 r.nd).mp (e.trans h1.symm))
  show(r.at' m b ob h1 h2).stayQ yk t (bA hb)
def ET(d:Nat)(h:PH):A_ PH:=match h[d]? with
 |some (.fz o)=>a_ (h.set d o)
 |_=>b_
theorem OY{d:Nat}(rh:K_ h)(hd:ES h[d]?=true)(p:φ<+:φ')(t:Kp H H')(ao:q0u h2)(e:ET d h2=a_ h3):
  ∃a oc u,H' a=a_ (.frz oc u)/\(∀o z,H a≠a_ (.frz o z))/\Kp H (upd H' a u)/\RH C φ' (upd H' a u) h3/\Kq H' (upd H' a u):=by
 unfold ET at e;split at e
 ·rename_i o ho;cases e
  cases e0:h[d]? with
  |none=>rw[e0]at hd;cases hd
  |some o0=>
   rw[e0]at hd;let⟨a,ha,r0⟩:=rh.get e0;let nf:∀o z,H a≠a_ (.frz o z):=λo z q=>by
    cases o0 with
    |dK kvs=>let⟨ks,q2,_⟩:=r0;rw[q]at q2;cases q2
    |dD kvs=>let⟨ks,q2,_⟩:=r0;rw[q]at q2;cases q2
    |_=>cases hd
   let ha':=lZ p ha;let r1:=ao.at' d a _ ha' ho;let gen:∀oc u,H' a=a_ (.frz oc u)->(∀xs,u≠.tup xs)->(∀xs,u≠.lst xs)->Kp H (upd H' a u)/\Kq H' (upd H' a u):=λoc u q nt nl=>by
    let kq:Kq H' (upd H' a u):=⟨λb xs z=>by
     let ne:b≠a:=by
      rintro rfl;rcases z with z|⟨ob,z⟩
      ·rw[q]at z;cases z
      ·rw[q]at z;cases z;show nt _ rfl
     unfold Rd;rw[bA ne];show z,λb ob xs z=>by
     let ne:b≠a:=by rintro rfl;rw[q]at z;cases z;show nl _ rfl
     rw[bA ne];show z⟩
    refine⟨⟨λb xs z=>kq.1 b xs (t.1 b xs z),λb ob z q2=>?_⟩,kq⟩;let ne:b≠a:=λz2=>nf ob z (z2▸q2);rw[bA ne];show t.2 b ob z q2
   cases o with
   |dK kvs=>let⟨oc,ks,q,r⟩:=r1;let⟨k1,k2⟩:=gen oc _ q (λ_ z=>by cases z) (λ_ z=>by cases z);show⟨a,oc,_,q,nf,k1,ao.writeQ ha' k2 ⟨ks,bP,r.monoQ yk k2⟩,k2⟩
   |dD kvs=>let⟨oc,ks,q,r⟩:=r1;let⟨k1,k2⟩:=gen oc _ q (λ_ z=>by cases z) (λ_ z=>by cases z);show⟨a,oc,_,q,nf,k1,ao.writeQ ha' k2 ⟨ks,bP,r.monoQ yk k2⟩,k2⟩
   |_=>exact r1.elim
 ·cases e
def wkD(b:Bool)(m:Me)(δ:Ev)(h:PH):A_ Nat:=match m δ h with
 |.ok x h1=>match wkI b x h1 with
  |some (d,_,_)=>if ES h[d]?=true then a_ d else b_
  |none=>b_
 |_=>b_
theorem Xt{d:Nat}(e:wkD b m δ h=a_ d):ES h[d]?=true:=by
 unfold wkD at e;split at e
 ·split at e
  ·split at e
   ·rename_i hd;cases e
    show hd
   ·cases e
  ·cases e
 ·cases e
def EU(b:Bool)(m me:Me):Me:=λδ h=>match wkD b m δ h with
 |some d=>(me δ h).bind λp h2=>match ET d h2 with
  |some h3=>.ok p h3
  |none=>.bad
 |none=>.bad
theorem Xu{k:Nat}(b:Bool)(m:Me)(he:I_ e me):I_ e (EU b m me):=λc=>by
 intro P1 s σ H Q I q;let⟨φ,δ,h,rh,re,p⟩:=q;unfold EU at p;cases ed:wkD b m δ h with
 |none=>rw[ed]at p;show p.elim
 |some d=>
  rw[ed]at p;dsimp only at p;let hd:=Xt ed;refine thn (he c P1 s σ H (λv H2=>∃a oc u,H2 a=a_ (.frz oc u)/\(∀o z,H a≠a_ (.frz o z))/\Q v (upd H2 a u)) I ⟨φ,δ,h,rh,re,?_⟩) ?_
  ·cases em:me δ h with
   |bad=>rw[em]at p;show p.elim
   |exc x h2=>rw[em]at p;show p
   |ok p2 h2=>
    rw[em]at p;let p0:P_ (match ET d h2 with|some h3=>.ok p2 h3|none=>.bad) Q:=p
    intro φ' v H' pp tt cg bt;cases et:ET d h2 with
    |none=>rw[et]at p0;show p0.elim
    |some h3=>rw[et]at p0;let⟨a,oc,u,q,nf,k1,cy,k2⟩:=OY rh hd pp tt cg et;show⟨a,oc,u,q,nf,p0 φ' v _ pp k1 cy (bt.monoQ yk k2)⟩
  ·rintro v s1 ⟨x,H2,I2,r,a,oc,u,q,nf,hq⟩;show⟨x,_,I2.thaw q (I.nofrz nf),r,hq⟩
def pJ:PV->z_ PV->PH->Rs PV:=λx ps h=>match x,ps with
 |.ref n,[]=>if ES h[n]?=true then .ok (.ref h.length) (h++[.vw 0 n]) else .bad
 |_,_=>.bad
theorem Ki{k:Nat}:MtG C k X "dict" lB "dict.items" pJ:=λc=>⟨λP1 s σ H x xs v us Q I rx rs h=>by
 let⟨φ,h,p,ps,rh,rp,ju,po⟩:=h;unfold pJ at po;split at po
 ·rename_i n;split at po
  ·rename_i hd;let⟨a,rfl,ha⟩:=rp;have:xs=[]:=by cases xs <;> first|rfl|exact ju.elim
   subst this;cases rx
   cases rs
   cases ho:h[n]? with
   |none=>rw[ho]at hd;cases hd
   |some o=>
    rw[ho]at hd;let⟨ks,u,oc,es,ep,W⟩:=ND c I rh ha ho hd;let hT:s.TypeIs (.ref a) "dict" := ⟨oc,W.get,W.cls⟩;refine y11 PySem.F.slot_dict_items hT PySem.F.entry_dict_items (PySem.F.args_dict_items_1 _) (JK a W.nsys) ⟨hT,?_⟩;let fr:H (e_ s)=b_:=I.fresh;refine⟨.ref (e_ s),_,I.laid (t':=s.toks) (o:=Ng 0 (e_ s) a) (λb u e=>yc _ e) (yg _) ?_,rfl,?_⟩
    ·show⟨⟨_,q0O 0,rfl,rfl⟩,⟨_,q0O 0⟩,λh1 h2 ⟨o,e,p⟩ k=>⟨o,k o e,p⟩⟩
    ·show po (φ++[(e_ s)]) (.ref _) _ (zy _ _) (Kp.new fr) (rh.new fr ⟨a,lZ (zy _ _) ha,bP⟩) ⟨_,rfl,by rw[<-rh.len];simp⟩
  ·show po.elim
 ·show po.elim,ED c⟩
theorem EV(e:h[n]?=a_ o)(hd:ES (a_ o)=true):pJ (.ref n) [] h=.ok (.ref h.length) (h++[.vw 0 n]):=by simp only[pJ,e,hd,if_true]
theorem Rr{d:Nat}(e:h[n]?=a_ (.vw 0 d))(e2:h[d]?=a_ o)(hx:qG o=a_ xs):wkI true (.ref n) h=a_ (d,o,xs):=by simp[wkI,e,e2,hx]
theorem Xv{x:PV}{d:Nat}(e:m δ h=.ok x h1)(ew:wkI b x h1=a_ (d,o,xs))(hd:ES h[d]?=true):wkD b m δ h=a_ d:=by simp[wkD,e,ew,hd]
theorem Rt{x:PV}{d:Nat}(e:m δ h=.ok x h1)(ew:wkI b x h1=a_ (d,o,xs)):Hs b m δ h=.ok ⟨xs,λ_=>true⟩ (h1.set d (.fz o)):=by simp[Hs,e,ew]
theorem Ru{d:Nat}{l:z_ MO}(e:h1[d]?=a_ o):ET d (h1.set d (.fz o)++l)=a_ (h1++l):=by
 let hl:d<h1.length:=(xt.mp e).1;let e1:(h1.set d (.fz o)++l)[d]?=a_ (.fz o):=by rw[zw (by rw[y0k];show hl),y0g hl]
 unfold ET;rw[e1];dsimp only;congr 1;rw[List.set_append_left _ _ (by rw[y0k];show hl),List.set_set];congr 1;apply y0D;intro i;by_cases hi:d=i
 ·subst hi;rw[y0g hl,e]
 ·rw[y0i hi]
theorem OZ{α:Type}{x:PV}{d:Nat}{tg:Mg}{ys:z_ α}{emb:α->PV}(f:α->A_ PV)(e:m δ h=.ok x h1)(ew:wkI b x h1=a_ (d,o,ys.map emb))(hd:ES h[d]?=true)(ho:h1[d]?=a_ o)(hz:ys.length<=16777216)(step:∀y∈ys,∃δ1,tg (emb y) (nY js δ)=a_ δ1/\∀h,match f y with
   |none=>tst δ1 h=.ok false h
   |some p=>tst δ1 h=.ok true h/\elt δ1 h=.ok p h):EU b m (gO js (Hs b m) tg tst elt) δ h=.ok (.ref h1.length) (h1++[.lst (ys.filterMap f)]):=by
 let hc:=xQ (js:=js) (tg:=tg) (tst:=tst) (elt:=elt) (δ:=δ) (h:=h) (g:=λ_=>true) f (Rt e ew) (λ_ _=>rfl) hz λy hy=>let ⟨δ1,a,b⟩:=step y hy;⟨δ1,a,λh _=>b h⟩;unfold EU;rw[Xv e ew hd];dsimp only;rw[hc,Rs.bind_ok,Ru ho];rw[y0k]
open PySem.SeqAt PySem.W
def hdk:PV->A_ Nat
 |.tup (.int _::_)=>a_ 0
 |.tup (.str _::_)=>a_ 1
 |.tup (.tup _::_)=>a_ 2
 |_=>b_
def iW:z_ PV->PH->Rs PV:=λxs h=>match xs with
 |[.ref n]=>match cO h n with
  |some kvs=>.ok (.ref h.length) (h++[.lst (kvs.map (·.1))])
  |none=>JR xs h
 |_=>JR xs h
theorem qH{k:Nat}:Av C k X (.type "list") iW:=λc=>gQ.imp (gQ.or (X4 c) (Mc c)) λvs H Q h=>by
 let⟨φ,h,ps,rh,rv,po⟩:=h;unfold iW at po;split at po
 ·rename_i n;split at po
  ·rename_i kvs e;let⟨v,rfl,rx⟩:=rv.one;let⟨a,rfl,ha⟩:=rx;show .inr ⟨φ,h,n,a,kvs,rfl,rh,ha,e,λl ws hl cb=>po.lnew rh cb hl⟩
  ·show .inl ⟨φ,h,_,rh,rv,po⟩
 ·show .inl ⟨φ,h,_,rh,rv,po⟩
theorem P3(e:cO h n=a_ kvs):iW [.ref n] h=.ok (.ref h.length) (h++[.lst (kvs.map (·.1))]):=by simp[iW,e]
theorem nZ(e:h[n]?=a_ (.lst xs)):iW [.ref n] h=.ok (.ref h.length) (h++[.lst xs]):=by
 let e0:cO h n=b_:=by simp[cO,e]
 simp[iW,e0,JR,cB,e]
open PySem.SeqAt PySem.W
open Classical in
noncomputable def Hu(b:Bool)(m:Nat)(ks ys:z_ PV):A_ (z_ PV):=if ks.length<64/\ks.length=ys.length/\OkN m ks/\(∀a∈ks.zip ys,∀c∈ks.zip ys,a.1=c.1->a.2=c.2) then a_ ((y2y b (sM y1s (ks.zip ys))).map (·.2)) else b_
noncomputable def oA(f:Fn)(b:Bool)(kb:Nat)(ys:z_ PV):z_ PV->z_ PV->PH->Rs PV
 |[],ks,h=>match Hu b kb ks ys with
  |some zs=>.ok (.ref h.length) (h++[.lst zs])
  |none=>.bad
 |x::xs,ks,h=>(f [x] h).bind λk h1=>oA f b kb ys xs (ks++[k]) h1
def Rv(C:MC)(X:Cx)(P1:gV 0)(σ:St)(φ:z_ td)(H:Hp)(f:Fn)(b:Bool)(kb:Nat)(ys:z_ PV)(Q:VK)(a z:td)(kS:td)(e1:Nat)(ks:z_ r_)(e:Nat)(s':s_):Prop:=z<kS/\∃H' φ' h' zs ps,Inv X (P1++[(kS,seqObj "list" ks.toArray e),(a,seqObj "list" #[] e1)]) σ H' s'/\φ<+:φ'/\Kp H H'/\q0u h'/\bH zs ks/\RVs C φ' H' ps zs/\post C φ' H' (oA f b kb ys (ys.drop ks.length) ps h') Q
theorem P4{k:Nat}{q:td}{f:Fn}{kb:Nat}{us:z_ V}{Q:VK}(c:q0j X)(D:Def C.K X.mg x st q fd pn)(G:N_ q fd pn (spM C 1 f))(hj:j+2<=k)(ry:G_ ys us)(rv:bH us its)(eA:A'=X.A.in1.in1)(fr:∀kS,a<=kS->X.s₀.heap.objs.size<=kS/\kS≠X.env.locals/\(∀x c,S_ 0=a_ c->c≠kS)/\(∀p∈X.pn++P1,p.1≠kS)/\kS∉X.fs)(kS:td)(e1:Nat)(ks:z_ r_)(e:Nat)(s':s_)(y:r_)(hy:its[ks.length]?=a_ y)(hJ:Rv C X P1 σ φ H f b kb ys Q a a kS e1 ks e s'):
  wpAny (g_ X) A' (call (.ref q) [y]) (λv cj=>cj.heap.get? kS=a_ (seqObj "list" ks.toArray e)/\∀(h':v_) e',y1w kS cj.heap h'->h'.get? kS=a_ (seqObj "list" (ks++[v]).toArray e')->Rv C X P1 σ φ H f b kb ys Q a a kS e1 (ks++[v]) e' { cj with heap:=h'}) (λ_ _=>False) s':=by
 subst eA;let⟨hz,H',φ',h',zs,ps,I,pp,tt,rh,rz,rp,po⟩:=hJ;let ak:ks.length<its.length:=(xt.mp hy).1;let oj:us.length=its.length:=rv.length;let ot:ys.length=us.length:=ry.length;let gy:ys[ks.length]?=a_ (ys[ks.length]'⋯):=by simp
 let⟨u,hu,ru⟩:=ry.at gy;let⟨y',gp,sy⟩:=rv.get hu;rw[hy]at gp;cases gp
 let hd:ys.drop ks.length=ys[ks.length]'⋯::ys.drop (ks.length+1):=drop_cons gy;rw[hd]at po;let oh:=c.K;let G':L_ CX0 j q fd pn (spM C 1 f):=by rw[oh];show G
 let D':Def X.K X.mg x st q fd pn:=by rw[oh];show D
 let o1:spM C 1 f [u] H' (λv H2=>∃φ2 p h2,φ'<+:φ2/\Kp H' H2/\RH C φ2 H2 h2/\RV C φ2 H2 p v/\post C φ2 H2 (oA f b kb ys (ys.drop (ks.length+1)) (ps++[p]) h2) Q) E0:=⟨φ',h',[ys[ks.length]'⋯],rh,⟨ru.mono pp tt,trivial⟩,rfl,post.bind po⟩;let hl:([y]:z_ r_).length=pn.length:=G'.len _ _ _ _ o1;refine wpAny_call (y2C (G'.run X.A.in1.in1 X.stack s' H' ⟨[y],[]⟩ [y] [u] _ E0 ((c.room.mono hj).in1.in1) I.env0.in1.in1 (by
  have:=D'.bd s' [y] I.kIn (k_ hl)
  simpa using this) (.cons sy .nil) o1) λr s2 hq=>?_)
 cases r with
 |error e=>exact hq.elim
 |ok fl=>
  cases fl with
  |next=>exact y0I hq
  |brk=>exact y0I hq
  |cont=>exact y0I hq
  |ret v=>
   let⟨x2,H2,I2,kz,φ2,p2,h2,nu,ou,ao,pd,se⟩:=I.after hq;let gk:=I2.pin (kS,seqObj "list" ks.toArray e) (yf _ (yf _ ye));let ga:=I2.pin (a,seqObj "list" #[] e1) (yf _ (yf _ (yd _ ye)));refine⟨gk.1,λg e' sb e8=>?_⟩;let fk:=fr kS (y0G hz);let uk:a≠kS:=yt hz;let I3:Inv X (P1++[(a,seqObj "list" #[] e1)]) σ H2 s2:=I2.pins_of λp hp=>(zf.mp hp).elim (λz=>I2.pin p (yf _ (z8 _ z))) λz=>by rw[y0.mp z];show ga
   let I4:=I3.turned (t':=s2.toks) (it:=kS) (h':=g) (λb' o' hb hq=>(sb.2 b' hb).trans hq) gk.2.1 fk.2.1 (.inr fk.1) fk.2.2.1 (λp hp=>by
    rcases zf.mp hp with hp|hp
    ·show fk.2.2.2.1 p (z8 _ hp)
    ·rcases zf.mp hp with hp|hp
     ·show fk.2.2.2.1 p (yf _ hp)
     ·rw[y0.mp hp];show uk)
   refine⟨hz,H2,φ2,h2,zs++[x2],ps++[p2],I4.pins_of λp hp=>?_,pp.trans nu,tt.trans ou,ao,rz.append (.cons kz .nil),(rp.mono nu ou).snoc pd,?_⟩
   ·rcases zf.mp hp with hp|hp
    ·show I4.pin p (yf _ (z8 _ hp))
    ·rcases yr.mp hp with rfl|hp
     ·show⟨e8,gk.2.1,fk.2.1,fk.2.2.2.2,lG⟩
     ·rw[y0.mp hp];show I4.pin _ (yf _ (yf _ ye))
   ·rw[y0z];show se
theorem Kj{kb:Nat}{ae:z_ PV}(hl:ae.length=ys.length)(ok:OkN kb ae)(cs:∀a∈ae.zip ys,∀c∈ae.zip ys,a.1=c.1->a.2=c.2){p:z_ Nat}(hp:p.Perm (za ys.length))(ho:p.Pairwise (λi j=>(if b then ltN (ae.getD i .non) (ae.getD j .non) else ltN (ae.getD j .non) (ae.getD i .non))=false)):p.map (λi=>ys.getD i .non)=(y2y b (sM y1s (ae.zip ys))).map (·.2):=by
 letI zs:=ae.zip ys;let uv:zs.length=ys.length:=by change(ae.zip ys).length=_;simp[hl]
 let ay:∀i∈p,i<ys.length:=λi hi=>by simpa using hp.mem_iff.mp hi
 let eg:∀i,i<ys.length->zs.getD i (.non,.non)=(ae.getD i .non,ys.getD i .non):=λi hi=>by
  let h1:i<ae.length:=⋯;let h2:i<zs.length:=⋯;let h3:(ae.zip ys)[i]?=a_ (ae[i],ys[i]):=by rw[y1d];show⟨by simp[h1],by simp[hi]⟩
  change(ae.zip ys).getD i _=_
  simp[h1,hi,h3]
 let my:(p.map λi=>zs.getD i (.non,.non)).Perm zs:=Bu (by rw[uv];show hp);let hm:zs.map (·.1)=ae:=by
  change(ae.zip ys).map y1s=ae
  show List.map_fst_zip ⋯
 let hsz:∀y∈zs,y.1∈ae:=λy hy=>by rw[<-hm];show y6.mpr ⟨y,hy,rfl⟩
 let inj:∀a∈zs,∀c∈zs,enc (y1s a)=enc (y1s c)->a=c:=λa ha c hc e=>by let e1:=ok.inj _ (hsz a ha) _ (hsz c hc) e;show Prod.ext e1 (cs a ha c hc e1)
 let e2:p.map (λi=>ys.getD i .non)=(p.map λi=>zs.getD i (.non,.non)).map (·.2):=by rw[z7];show y0B λi hi=>by change _=(zs.getD i _).2;rw[eg i (ay i hi)]
 rw[e2];let key:∀(R:Nat->Nat->Bool),p.Pairwise (λi j=>R i j=false)->(∀i j,i<ys.length->j<ys.length->R i j=ltN (zs.getD j (.non,.non)).1 (zs.getD i (.non,.non)).1)->(p.map λi=>zs.getD i (.non,.non)).Pairwise (λx y=>ltN y.1 x.1=false):=λR h1 h2=>by rw[y0v];show h1.imp_of_mem λ{i j} hi hj h=>by rw[<-h2 i j (ay i hi) (ay j hj)];show h
 cases b with
 |false=>
  congr 1;refine Hg y1s inj my (key (λi j=>ltN (ae.getD j .non) (ae.getD i .non)) ho λi j hi hj=>by rw[eg i hi,eg j hj])
 |true=>
  congr 1;let hr:(p.map λi=>zs.getD i (.non,.non)).reverse=sM y1s zs:=by refine Hg y1s inj ((y2s _).trans my) ?_;rw[y2o,y0v];show ho.imp_of_mem λ{i j} hi hj h=>by rw[eg i (ay i hi),eg j (ay j hj)];show h
  change _=(sM y1s zs).reverse
  rw[<-hr,List.reverse_reverse]
section
variable{α:Type}
theorem UF{key emb:α->PV}{xs:z_ α}{m:Nat}(h1:xs.length<64)(ok:OkN m (xs.map key))(hc:∀a∈xs,∀c∈xs,key a=key c->emb a=emb c):∃os:z_ α,os.Perm xs/\os.Pairwise (λa c=>ltN (key c) (key a)=false)/\Hu false m (xs.map key) (xs.map emb)=a_ (os.map emb):=by
 let ez:(xs.map key).zip (xs.map emb)=xs.map λx=>(key x,emb x):=by
  induction xs with
  |nil=>rfl
  |cons x xs ih=>simp only[yq,y2h];rw[ih (by simp at h1;omega) ⟨ok.m3,λy hy=>ok.ky y (yd _ hy),λy hy=>ok.fk y (yd _ hy),λy hy z hz=>ok.lt y (yd _ hy) z (yd _ hz)⟩ (λa ha c aa=>hc a (yd _ ha) c (yd _ aa))]
 let ue:∀(x:α)(ys:z_ α),EJ y1s (key x,emb x) (ys.map λy=>(key y,emb y))=(EJ key x ys).map λy=>(key y,emb y):=λx ys=>by
  induction ys with
  |nil=>rfl
  |cons y ys ih=>
   change(if ltN (key y) (key x)=true then(key y,emb y)::EJ y1s (key x,emb x) (ys.map λy=>(key y,emb y)) else(key x,emb x)::(key y,emb y)::ys.map λy=>(key y,emb y))=(if ltN (key y) (key x)=true then y::EJ key x ys else x::y::ys).map λy=>(key y,emb y)
   split
   ·rw[ih];rfl
   ·rfl
 let srt:∀ys:z_ α,sM y1s (ys.map λy=>(key y,emb y))=(sM key ys).map λy=>(key y,emb y):=λys=>by
  induction ys with
  |nil=>rfl
  |cons y ys ih=>
   change EJ y1s (key y,emb y) (sM y1s (ys.map λy=>(key y,emb y)))=_
   rw[ih,ue];rfl
 refine⟨sM key xs,tQ key xs,tR key xs,?_⟩;unfold Hu;rw[if_pos ⟨k_ h1,by simp,ok,λa ha c aa e=>by rw[ez]at ha aa;let⟨x,hx,rfl⟩:=y6.mp ha;let⟨y,hy,rfl⟩:=y6.mp aa;show hc x hx y hy e⟩,ez,srt]
 change a_ (((sM key xs).map λy=>(key y,emb y)).map Prod.snd)=_
 rw[z7];rfl
theorem NF{key emb:α->PV}{f:Fn}{m:Nat}{ys zs:z_ PV}{Q:PV->PH->Prop}:∀(r done:z_ α)(h:PH),(∀d∈r,∀h(Q:PV->PH->Prop),(∀h',S1 h'->Q (key d) h')->(f [emb d] h).W Q)->
  Hu false m ((done++r).map key) ys=a_ zs->(∀h',S1 h'->Q (.ref h'.length) (h'++[.lst zs]))->(oA f false m ys (r.map emb) (done.map key) h).W Q
 |[],done,h,_,hs,k=>by rw[y1f]at hs;simp only[List.map_nil,oA,hs,Ij];show k h (Ext.refl h)
 |x::r,done,h,hf,hs,k=>by
  rw[yq];unfold oA;rw[Ik];refine hf x ye h _ λh1 x1=>?_;let e:done.map key++[key x]=(done++[x]).map key:=by simp
  rw[e];show NF r (done++[x]) h1 (λd hd=>hf d (yd _ hd)) (by rw[y2r];show hs) λh' x2=>k h' (x1.trans x2)
end
def Rw(f:r_):Prop:=f=.none\/∃T:Nat,f=rawInt T
abbrev CQ(h:v_)(it d:td)(i n ep:Nat)(f0:r_)(f1:Bool)(ok ov:r_):Prop:=h.get? it=a_ {cls:=.type "dict_itemiterator",data:=.fields #[f0,.bool f1,.ref d,.int i 0,.int n 0,.int ep 0,ok,ov]}
theorem Rx{Q:A_ Obj->s_->Prop}(h:Q (s.heap.get? a) s):C_ (loadIfAlive a) Q E s:=λΓ p _=>by unfold loadIfAlive;rw[Sem.wp_loadIfAlive];show h
variable{f0:r_}{f1:Bool}
theorem EW{ok:r_}(hI:CQ s.heap it dc i n ep f0 f1 ok ov):s.TypeIs (.ref it) "dict_itemiterator" := ⟨_,hI,rfl⟩
theorem Mj{es:q1m 0}{ok:r_}{Q:A_ r_->s_->Prop}(hI:CQ s.heap it dc i es.size ep f0 f1 ok ov)(h1:q0y 0=a_ oc)(h2:oc.data=.dict es ep)(ak:i<es.size)(hf:Rw f0)(q:∀h' f0' f1' uq t8,Rw f0'->CQ h' it dc (i+1) es.size ep f0' f1' uq t8->h'.get? (e_ s)=a_ {cls:=.type "tuple",data:=.seq #[es[i].key,es[i].val]}->
   (∀(b:td)(o:Obj),b≠it->P2 0=a_ o->q0D 0=a_ o)->Q (c_ (e_ s)) {s with heap:=h'}):C_ (pyNext (.ref it)) Q E s:=by
 let hT:=EW hI;unfold pyNext;refine xr (y1N (z9 (name:=yi "__next__") hT zj (zm zj hT y1k ?_ (y1b _))));refine xr (xw (xr (xr ?_)))
 first|refine xr (zx hT (xw ?_))|refine xr (y0f hT (xw ?_))
 refine xr (y1R hI rfl ?_);rw[show zl "dict_itemiterator" = true by decide];simp only[if_true]
 change F_ (if(y4 dc == yp)=true then _ else _) _ _ s
 rw[if_neg (show ¬ ((y4 dc == yp)=true) from yl)]
 refine xr (xw (xr (y0l h1 h2 ?_)));rw[if_neg (show ¬ _ by simp)];refine xr (xw (xr (y0t h1 h2 ?_)));rw[if_neg (show ¬ _ by simp)];refine xw ?_;simp only[show ¬ ((i:Int)<0) by omega,if_false,y1a,y0N ak];refine xr ?_
 first|refine xr (zx hT (xw ?_))|refine xr (y0f hT (xw ?_))
 refine xr (y07 hT (show F_ (setField (.ref it) 3 (rawInt ((i:Int)+1)) >>= _) _ _ s from xr (y1e hI rfl (by simp) ?_)))
 let fh:CQ (q0r (y0p (·.setIfInBounds 3 (rawInt ((i:Int)+1))))) it dc (i+1) es.size ep f0 f1 ok ov:=by
  change(q0r _).get? it=_
  rw[y0a _ hI (y1i (y01 rfl _))];simp[y0p,rawInt]
 let kp:∀(b:td)(o:Obj),b≠it->P2 0=a_ o->(q0r (y0p (·.setIfInBounds 3 (rawInt ((i:Int)+1))))).get? b=a_ o:=λb o hb e=>by rw[(zk ..).2 b hb];show e
 let sz:(q0r (y0p (·.setIfInBounds 3 (rawInt ((i:Int)+1))))).objs.size=(e_ s):=(zk ..).1;generalize s.heap.update it (y0p (·.setIfInBounds 3 (rawInt ((i:Int)+1))))=hA at fh kp sz;let iy:({s with heap:=hA}:s_).TypeIs (.ref it) "dict_itemiterator" := EW fh;refine xr (y0c (xr (y07 iy (xr (y07 iy ?_)))))
 change F_ (y06 (.ref it) 6 es[i].key es[i].val) _ _ _
 unfold y06;simp only[newTuple];refine xr (zd ?_ (by size_fits));let fb:CQ (hA.push {cls:=.type "tuple",data:=.seq #[es[i].key,es[i].val]}) it dc (i+1) es.size ep f0 f1 ok ov:=yc _ fh;let gt:(hA.push {cls:=.type "tuple",data:=.seq #[es[i].key,es[i].val]}).get? hA.objs.size=a_ {cls:=.type "tuple",data:=.seq #[es[i].key,es[i].val]}:=q0O 0;let md:∀(b:td)(o:Obj),b≠it->P2 0=a_ o->(hA.push {cls:=.type "tuple",data:=.seq #[es[i].key,es[i].val]}).get? b=a_ o:=λb o hb e=>yc _ (kp b o hb e);rw[sz]at gt;let ne:(e_ s)≠it:=y0x (yj hI)
 change F_ _ _ _ {s with heap:=hA.push {cls:=.type "tuple",data:=.seq #[es[i].key,es[i].val]} }
 generalize hA.push {cls:=.type "tuple",data:=.seq #[es[i].key,es[i].val]}=hB at fb gt md;let eA:(y4 ({s with heap:=hA}:s_).heap.objs.size)=.ref (e_ s):=by rw[<-sz]
 simp only[eA];let ie:∀{h1:v_}{fs:q0l 0}{j:Nat}{x:r_}{α:Type}{f:Unit->Sem α}{R:α->s_->Prop}{E':f_ 0},h1.get? it=a_ {cls:=.type "dict_itemiterator",data:=.fields fs}->j<fs.size->
   (∀h2:v_,h2.get? it=a_ {cls:=.type "dict_itemiterator",data:=.fields (fs.setIfInBounds j x)}->(∀(b:td),b≠it->h2.get? b=h1.get? b)->q1q (f ()) R E' {s with heap:=h2})->
   q1q (setField (.ref it) j x >>= f) R E' {s with heap:=h1}:=λ{h1 fs j x α f R E'} g hj k=>by
  refine xr (y1e (s:={s with heap:=h1}) g rfl hj ?_);refine k _ ?_ λb hb=>(zk ..).2 b hb;rw[y0a _ g (y1i (y01 rfl _))];simp[y0p]
 let free:∀E':f_ 0,q1q (y1F (.ref it)) (λ_ s'=>∃h9 g1,s'={s with heap:=h9}/\CQ h9 it dc (i+1) es.size ep f0 g1 ok ov/\∀b,b≠it->h9.get? b=hB.get? b) E' {s with heap:=hB}:=λE'=>by
  unfold y1F;refine xr (y1D (s:={s with heap:=hB}) fb rfl (x:=f0) rfl ?_);rcases hf with rfl|⟨T,rfl⟩
  ·show xw ⟨hB,f1,rfl,fb,λ_ _=>rfl⟩
  ·change F_ (loadIfAlive ((T:Int).toNat) >>= _) _ _ _
   refine xr (Rx ?_);cases hB.get? ((T:Int).toNat) with
   |none=>exact xw ⟨hB,f1,rfl,fb,λ_ _=>rfl⟩
   |some o=>
    simp only[Option.isNone_some,zb,if_false];refine xr (y1D (s:={s with heap:=hB}) fb rfl (x:=.bool f1) rfl ?_);cases f1 with
    |false=>rw[if_pos nofun];refine ie fb (by simp) λh3 g3 s3=>?_;show xw ⟨h3,true,rfl,by change h3.get? it=_;rw[g3];simp,s3⟩
    |true=>rw[V_ 0];show xw ⟨hB,true,rfl,fb,λ_ _=>rfl⟩
 refine xr (y0R (free _) (λb s' hb=>?_) λ_ _ e=>e);let⟨h9,g1,rfl,qt,s9⟩:=hb;cases b with
 |true=>
  simp only[if_true];refine xr (y1D (s:={s with heap:=h9}) qt rfl (x:=ok) rfl (xr (y1D (s:={s with heap:=h9}) qt rfl (x:=ov) rfl ?_)));refine ie qt (by simp) λh3 g3 s3=>?_;refine ie g3 (by simp) λh4 g4 s4=>?_;refine ie g4 (by simp) λh5 g5 s5=>?_;refine ie g5 (by simp) λh6 g6 s6=>?_;refine xr (wpAny_letGo (xw (xw ⟨_,rfl,xw (q h6 (rawInt (e_ s)) false es[i].key es[i].val (.inr ⟨_,rfl⟩) (by rw[<-sz];change h6.get? it=_;rw[g6];simp) ?_ λb o hb e=>?_)⟩)))
  ·rw[s6 _ ne,s5 _ ne,s4 _ ne,s3 _ ne,s9 _ ne];show gt
  ·rw[s6 _ hb,s5 _ hb,s4 _ hb,s3 _ hb,s9 _ hb];show md b o hb e
 |false=>
  simp only[zb,if_false];refine xw (xw ⟨_,rfl,xw (q h9 f0 g1 ok ov hf qt ?_ λb o hb e=>?_)⟩)
  ·rw[s9 _ ne];show gt
  ·rw[s9 _ hb];show md b o hb e
theorem Ml{es:q1m 0}{ok:r_}{Q:A_ r_->s_->Prop}(hh:A.handled=b_)(hI:CQ s.heap it dc i es.size ep f0 f1 ok ov)(h1:q0y 0=a_ oc)(h2:oc.data=.dict es ep)(ir:es.size<=i)(q:∀h',Heap.ExtBut it s.heap h'->Q b_ {s with heap:=h'}):C_ (pyNext (.ref it)) Q E s:=by
 let hT:=EW hI;unfold pyNext;refine xr (y1N (z9 (name:=yi "__next__") hT zj (zm zj hT y1k ?_ (y1b _))));refine xr (xw (xr (xr ?_)))
 first|refine xr (zx hT (xw ?_))|refine xr (y0f hT (xw ?_))
 refine xr (y1R hI rfl ?_);rw[show zl "dict_itemiterator" = true by decide];simp only[if_true]
 change F_ (if(y4 dc == yp)=true then _ else _) _ _ s
 rw[if_neg (show ¬ ((y4 dc == yp)=true) from yl)]
 refine xr (xw (xr (y0l h1 h2 ?_)));rw[if_neg (show ¬ _ by simp)];refine xr (xw (xr (y0t h1 h2 ?_)));rw[if_neg (show ¬ _ by simp)];refine xw ?_;simp only[show ¬ ((i:Int)<0) by omega,if_false,y1a,y0h ir];refine xr ?_
 first|refine xr (zx hT (xw ?_))|refine xr (y0f hT (xw ?_))
 refine(show F_ (setField (.ref it) 2 .none >>= _) _ _ s from xr (y1e hI rfl (by simp) ?_))
 refine(show F_ (newExc (.type "StopIteration") [] >>= _) _ _ _ from xr ?_);simp only[newExc,newTuple]
 refine xr (zd (xr (m:=y1S _ _) (wpAny_of_eq (a:=yp) (by first|rfl|(simp only[y1S];rfl)) (zd ?_ (by size_fits)))) (by size_fits))
 simp only[raiseNew];refine xr (wpAny_handled ?_);rw[show A.in1.handled=b_ from hh]
 refine xr (xw (wpAny_throw ?_));refine xr (y2b (T:="StopIteration") (b:=true) ⟨_,q0O 0,rfl⟩ isSubtype_stop ?_);show xw (q _ (((zk ..).extBut.push _).push _))
structure Prs(es:Array y0A)(lo:td)(h:v_)(as:z_ td):Prop where
 above:∀a∈as,lo<a
 rise:as.Pairwise (· < ·)
 pairs:∀(j:Nat) a,as[j]?=some a->∃e,es[j]?=some e/\h.get? a=some {cls:=.type "tuple",data:=.seq #[e.key,e.val]}
variable{h₁:v_}
theorem Ry{es:q1m 0}{S I d:td}(hh:A.handled=b_)(oo:S<I)(qo:d≠S)(hId:d≠I)(h2:oc.data=.dict es ep)(hn:es.size<=yo)(res:r_)(hR:∀h' tk acc c as,(∀b o,b≠S->b≠I->h₁.get? b=a_ o->q0D 0=a_ o)->h'.get? S=a_ {cls:=.type "list",dict:=b_,data:=.seq acc c,slots:=#[]}->as.length=es.size->Prs es I h' as->
   acc.toList=as.map y4->R (.ok (.ret res)) {s with heap:=h',toks:=tk}):
  ∀(k i:Nat)(h:v_)(tk c:Nat)(acc:q0l 0)(as:z_ td)(f0:r_)(f1:Bool)(ok ov:r_),es.size-i=k->i<=es.size->Rw f0->CQ h I d i es.size ep f0 f1 ok ov->h.get? d=a_ oc->(∀b o,b≠S->b≠I->h₁.get? b=a_ o->h.get? b=a_ o)->
   h.get? S=a_ {cls:=.type "list",dict:=b_,data:=.seq acc c,slots:=#[]}->acc.toList=as.map y4->as.length=i->Prs es I h as->
   codeAny (model prog w) A (.builtin "list.extend.loop" ⟨[.ref S,.ref I,res],[]⟩) R {s with heap:=h,toks:=tk}:=by
 let cq:S≠I:=yt oo;intro k
 induction k with
 |zero=>
  intro i h tk c acc as f0 f1 ok ov hk hi ff bp hD hkeep hS ah hal hG;refine codeAny_builtin PySem.F.entry_extend_loop ?_;rw[y2v y0O _]
  change wpAny _ A.in1 (pyNext (.ref I) >>= _) _ _ _
  refine xr (Ml (s:={s with heap:=h,toks:=tk}) (A:=A.in1) hh bp hD h2 ⋯ λh' he=>?_);refine xw (hR h' tk acc c as (λb o h1 h2 e=>he b o h2 (hkeep b o h1 h2 e)) (he S _ cq hS) ⋯ ⟨hG.above,hG.rise,λj a hj=>?_⟩ ah);let⟨e,e1,e2⟩:=hG.pairs j a hj;show⟨e,e1,he a _ (y0x (hG.above a (zi hj))) e2⟩
 |succ k ih=>
  intro i h tk c acc as f0 f1 ok ov hk hi ff bp hD hkeep hS ah hal hG;let ak:i<es.size:=⋯;let hsz:acc.size=i:=by rw[<-y15,ah,yh,hal]
  let hIs:I<h.objs.size:=yj bp;let rq:S<h.objs.size:=yj hS;refine codeAny_builtin PySem.F.entry_extend_loop ?_;rw[y2v y0O _]
  change wpAny _ A.in1 (pyNext (.ref I) >>= _) _ _ _
  refine xr (Mj (s:={s with heap:=h,toks:=tk}) (A:=A.in1) bp hD h2 ak ff λh' g0 g1 uq t8 ff' uw ht p8=>?_);dsimp only at ht p8⊢;let de:=p8 S _ cq hS;let up:∀b o,b≠S->q0D 0=a_ o->(h'.update S (zh (·.push (y4 h.objs.size)))).get? b=a_ o:=λb o hb e=>(y0J _ _ (y1o hb)).trans e
  change wpAny _ A.in1 (updateSeq S (·.push (y4 h.objs.size)) >>= _) _ _ _
  refine xr ?_;refine wpAny_updateSeq de rfl (xw ⟨plainId_quiet y0O _,ih (i+1) _ tk _ (acc.push (y4 h.objs.size)) (as++[h.objs.size]) g0 g1 uq t8 ⋯ ak ff' (up I _ (y1o cq) uw) (up d _ qo (p8 d _ hId hD))
   (λb o h1 h2 e=>up b o h1 (p8 b o h2 (hkeep b o h1 h2 e))) (y0a _ de rfl) (by rw[Array.toList_push,ah,y02];rfl) (by rw[y0z,hal];rfl) ⟨?_,?_,?_⟩⟩) (by rw[hsz];omega) (by change(acc.push (y4 h.objs.size)).size<=yo+1;rw[Array.size_push];omega)
  ·intro a ha;rcases zf.mp ha with ha|ha
   ·show hG.above a ha
   ·rw[y0.mp ha];show hIs
  ·refine List.pairwise_append.mpr ⟨hG.rise,y1t _ _,λa ha b hb=>?_⟩;rw[y0.mp hb];let⟨j,hj⟩:=y1L.mp ha;let⟨e,_,e2⟩:=hG.pairs j a hj;show yj e2
  ·intro j b hj;rcases Nat.lt_trichotomy j as.length with h1|h1|h1
   ·rw[zw h1]at hj;let⟨e,e1,e2⟩:=hG.pairs j b hj;let hb:=hG.above b (zi hj);show⟨e,e1,up b _ (y0x (Nat.lt_trans oo hb)) (p8 b _ (y0x hb) e2)⟩
   ·subst h1;let hb:h.objs.size=b:=by simpa using hj
    subst hb;show⟨es[i],by rw[hal];simp[ak],up _ _ (y0x rq) ht⟩
   ·let ia:(as++[h.objs.size])[j]?=b_:=y0U (by rw[y0z,List.length_singleton];omega);rw[ia]at hj;cases hj
open PySem.W
variable{as:z_ td}
theorem Prs.low{es:q1m 0}{lo vx:td}{h:v_}(g:Prs es lo h as)(hl:vx<=lo):Prs es vx h as:=⟨λa ha=>Nat.lt_of_le_of_lt hl (g.above a ha),g.rise,g.pairs⟩
theorem Mm{es:q1m 0}{r:td}{d:td}(hh:A.handled=b_)(hv:s.heap.IsItemsView r d)(hD:s.heap.get? d=a_ oc)(h2:oc.data=.dict es ep)(S:td)(hSr:S≠r)(qo:d≠S)(res:r_)(c₀:Nat)(hS:s.heap.get? S=a_ {cls:=.type "list",data:=.seq #[] c₀})(hR:∀h' tk acc c as,(∀b o,b≠S->P2 0=a_ o->q0D 0=a_ o)->h'.get? S=a_ {cls:=.type "list",dict:=b_,data:=.seq acc c,slots:=#[]}->as.length=es.size->Prs es (e_ s) h' as->
   acc.toList=as.map y4->R (.ok (.ret res)) {s with heap:=h',toks:=tk})(hn:es.size<=yo):
  q1q (y0m (.ref S) (.ref r) res)
   (λfin s'=>match fin with|.done f=>R (.ok f) s'|.again c'=>c'.quiet=true/\codeAny (model prog w) A c' R s') (λe s'=>R (.error e) s') s:=by
 let oo:S<(e_ s):=yj hS;let hdI:d<(e_ s):=yj hD;let key:∀(h:v_)(c₁ tk:Nat),(∀b o,b≠S->(s.heap.push {cls:=.type "dict_itemiterator",data:=.fields #[.none,.bool false,.ref d,.int 0 0,.int es.size 0,.int ep 0,.none,.none]}).get? b=a_ o->h.get? b=a_ o)->
   h.get? S=a_ {cls:=.type "list",data:=.seq #[] c₁}->codeAny (model prog w) A (.builtin "list.extend.loop" ⟨[.ref S,.ref (e_ s),res],[]⟩) R {s with heap:=h,toks:=tk}:=by
  intro h c₁ tk hk l0;let hI:=hk (e_ s) _ (y0x oo) (q0O 0);show Ry (es:=es) (ep:=ep) (oc:=oc) (s:=s) (h₁:=s.heap) hh oo qo (yt hdI) h2 hn res (λh' tk' acc c as e9 de hl hG ah=>hR h' tk' acc c as (λb o hb e=>e9 b o hb (yt (yj e)) e) de hl hG ah)
   es.size 0 h tk c₁ #[] [] .none false .none .none (Nat.sub_zero _) (y9 _) (.inl rfl) hI (hk d _ qo (yc _ hD)) (λb o hb _ e=>hk b o hb (yc _ e)) l0 rfl rfl
   ⟨(λ_ ha=>nomatch ha),y2H,(λj a hj=>by simp at hj)⟩
 unfold y0m;refine xr (wpAny_typeOf (T:="dict_items") hv.typeIs ?_);let h1:y1X (.ref S) (.ref r)=false:=by simp[y1X,hSr]
 let h3:(y1H "dict_items" == y1H "list")=false:=by decide
 let h4:(y1H "dict_items" == y1H "tuple")=false:=by decide
 simp only[h1,h3,h4,Bool.or_false,zb,if_false];refine xr (En hv hD h2 ?_);let l0:=yc {cls:=.type "dict_itemiterator",data:=.fields #[.none,.bool false,.ref d,.int 0 0,.int es.size 0,.int ep 0,.none,.none]} hS;refine xr (y0c (kdx_hint (let ⟨o,ho,hc,_⟩:=hv;⟨o,yc _ ho,hc⟩) ?_));refine wpAny_ite_split (λ_=>?_) (λ_=>xw ⟨plainId_quiet y0O _,key _ c₀ _ (λb o _ e=>e) l0⟩);refine xr (wpAny_rule ?_);refine xr ?_
 change F_ (updateSeq S (·.push .none) >>= λ_=>updateSeq S (·.pop)) _ _ _
 refine xr (wpAny_updateSeq l0 rfl ?_);let qr:=y0a (zh (·.push yp)) l0 rfl;refine wpAny_updateSeq (hz:=by seq_fits) qr rfl ?_;let hS₃:=y0a (zh (·.pop)) qr rfl;refine xw ⟨plainId_quiet y0O _,key _ _ _ (λb o hb e=>?_) hS₃⟩;show(y0J _ _ (y1o hb)).trans ((y0J _ _ (y1o hb)).trans e)
theorem Kk{es:q1m 0}{r:td}{d:td}{R:z_ r_->s_->Prop}(hh:A.handled=b_)(hv:s.heap.IsItemsView r d)(hD:s.heap.get? d=a_ oc)(h2:oc.data=.dict es ep)(hn:es.size<=yo)(h:∀(h':v_)(tk:Nat)(as:z_ td),(∀b o,P2 0=a_ o->q0D 0=a_ o)->as.length=es.size->Prs es (e_ s) h' as->R (as.map y4) {s with heap:=h',toks:=tk}):
  C_ (collect (.ref r)) R E s:=by
 let hr:r<(e_ s):=let ⟨_,ho,_⟩:=hv;yj ho;let hd:d<(e_ s):=yj hD;unfold collect;refine xr (wpAny_runValue (codeAny_builtin entry_proto_collect' ?_));rw[y2v PySem.F.plain_proto_collect _]
 change wpAny _ A.in1 (newList [] >>= λl=>again (.builtin "list.__iadd__" ⟨[l,.ref r],[]⟩)) _ _ s
 refine xr (zd ?_);refine xw ⟨plainId_quiet PySem.F.plain_list_iadd _,codeAny_builtin entry_list_iadd' ?_⟩;rw[y2v PySem.F.plain_list_iadd _];let l0:(s.heap.push {cls:=.type "list",data:=.seq ([]:z_ r_).toArray}).get? (e_ s)=a_ {cls:=.type "list",data:=.seq #[]}:=q0O 0
 change wpAny _ A.in1 (y0m (.ref (e_ s)) (.ref r) (.ref (e_ s))) _ _ _
 let key:=Mm (A:=A) (s:={s with heap:=s.heap.push {cls:=.type "list",data:=.seq ([]:z_ r_).toArray} }) (prog:=prog) (w:=w) (es:=es) (ep:=ep) (oc:=oc) (r:=r) (d:=d)
  (R:=λ(q:Result)(s':s_)=>∃(h':v_)(tk:Nat)(aj:q0l 0)(c':Nat)(as:z_ td),q=.ok (.ret (.ref (e_ s)))/\s'={s with heap:=h',toks:=tk}/\
   (∀b o,P2 0=a_ o->q0D 0=a_ o)/\h'.get? (e_ s)=a_ {cls:=.type "list",dict:=b_,data:=.seq aj c',slots:=#[]}/\as.length=es.size/\Prs es (e_ s) h' as/\aj.toList=as.map y4)
  hh (let ⟨o,ho,x⟩:=hv;⟨o,yc _ ho,x⟩) (yc _ hD) h2 (e_ s) (y0x hr) (yt hd) (.ref (e_ s)) 0 l0
  (λh' tk aj c' as hk de hl hG ah=>⟨h',tk,aj,c',as,rfl,rfl,λb o e=>hk b o (yt (yj e)) (yc _ e),de,hl,hG.low (by change (e_ s)<=(s.heap.push _).objs.size;rw[y1x];show y09 _),ah⟩) hn
 let fin:∀(h':v_)(tk:Nat)(aj:q0l 0)(c':Nat)(as:z_ td),(∀b o,P2 0=a_ o->q0D 0=a_ o)->h'.get? (e_ s)=a_ {cls:=.type "list",dict:=b_,data:=.seq aj c',slots:=#[]}->as.length=es.size->Prs es (e_ s) h' as->aj.toList=as.map y4->R aj.toList {s with heap:=h',toks:=tk}:=λh' tk aj c' as hk _ hl hG ah=>by rw[ah];show h h' tk as hk hl hG
 refine y0R key (λfn s' x=>?_) λe s' x=>?_
 ·cases fn with
  |done f=>
   let⟨h',tk,aj,c',as,e,rfl,hk,de,hl,hG,ah⟩:=x;cases e
   change wpAny _ A (load (e_ s) >>= _) _ _ _
   refine xr (wpAny_load de (xw ?_));show fin h' tk aj c' as hk de hl hG ah
  |again c₁=>
   refine⟨x.1,y2C x.2 λq s₂ y=>?_⟩;let⟨h',tk,aj,c',as,rfl,rfl,hk,de,hl,hG,ah⟩:=y
   change wpAny _ A (load (e_ s) >>= _) _ _ _
   refine xr (wpAny_load de (xw ?_));show fin h' tk aj c' as hk de hl hG ah
 ·let⟨_,_,_,_,_,e',_⟩:=x;cases e'
section
variable{k:Nat}
theorem Rz:∀{ps:z_ PV}{vs:z_ V},ps.length=vs.length->(∀(i:Nat) p v,ps[i]?=a_ p->vs[i]?=a_ v->E_ p v)->G_ ps vs
 |[],[],_,_=>trivial
 |p::ps,v::vs,hl,h=>⟨h 0 p v rfl rfl,Rz (k_ hl) λi a b ha hb=>h (i+1) a b (k_ ha) (k_ hb)⟩
 |[],_::_,hl,_=>by cases hl
 |_::_,[],hl,_=>by cases hl
end
def IF(h:PH)(n:Nat):A_ (z_ PV):=match h[n]? with
 |some (.vw 0 d)=>match h[d]? with
  |some o=>qG o
  |none=>b_
 |_=>b_
open PySem.SeqAt PySem.W
def BF(x:PV)(h:PH):A_ (z_ PV):=match x with
 |.ref n=>match cB h n with
  |some ys=>a_ ys
  |none=>IF h n
 |.fl ys=>a_ ys
 |_=>b_
noncomputable def tU(f:Fn)(b:Bool)(kb:Nat)(x:PV)(h:PH):Rs PV:=match BF x h with
 |some ys=>if ys.length<64 then oA f b kb ys ys [] h else .bad
 |none=>.bad
noncomputable def DI(f:Fn)(b:Bool)(kb:Nat)(me:Me):Me:=λδ h=>(me δ h).bind λx h1=>tU f b kb x h1
theorem P5{k:Nat}{b:td}{d:Nat}(c:q0j X)(I:Q_ s)(rh:K_ h)(hb:φ[d]?=a_ b)(hH:H a=a_ (Ng 0 a b))(ho:h[d]?=a_ o)(ey:qG o=a_ ys)(hz:ys.length<64):
  wpAny (g_ X) X.A.in1 (collect (.ref a)) (λits s1=>∃H1 us,E8 H H1/\j_ H1 s1/\bH us its/\RVs C φ H1 ys us) X.xe s:=by
 let⟨ks,u,oc,es,ep,W⟩:=ND c I rh hb ho (Ht ey);let hv:s.heap.IsItemsView a b:=(I.hok a _ hH).1;let⟨ly,ent⟩:=W.items ys ey;let lk:=W.len;let hn:es.size<=yo:=by rw[zr];omega
 refine Kk (I.ok.hd c.calm) hv W.get W.data hn λh' tk as kp hl hG=>?_;let k8:(as.zip (ks.map λkv=>[kv.1,kv.2])).map (·.1)=as:=by
  change(as.zip _).map y1s=as
  rw[List.map_fst_zip];rw[yh];omega
 let ar:∀q∈as.zip (ks.map λkv=>[kv.1,kv.2]),(e_ s)<=q.1:=λq hq=>by
  have:q.1∈as:=by rw[<-k8];show y6.mpr ⟨q,hq,rfl⟩
  show y0G (hG.above _ this)
 let nd:((as.zip (ks.map λkv=>[kv.1,kv.2])).map (·.1)).Nodup:=by rw[k8];show hG.rise.imp λh=>yt h
 let each:∀(j:Nat)(t:td),as[j]?=a_ t->∃(kv:V×V)(e:y0A),ks[j]?=a_ kv/\(as.zip (ks.map λkv=>[kv.1,kv.2]))[j]?=a_ (t,[kv.1,kv.2])/\RelV kv.1 e.key/\RelV kv.2 e.val/\h'.get? t=a_ {cls:=.type "tuple",data:=.seq #[e.key,e.val]}:=λj t ht=>by
  let⟨e,e1,e2⟩:=hG.pairs j t ht;let hj:=(xt.mp ht).1;let⟨kv,c8,r1,r2⟩:=W.ent j ⋯;let ee:es[j]'⋯=e:=by have:=y0N (xs:=es) (i:=j) ⋯;rw[this]at e1;cases e1;rfl
  refine⟨kv,e,c8,?_,by rw[<-ee];show r1,by rw[<-ee];show r2,e2⟩;rw[y1d];show⟨ht,by simp[c8]⟩
 let vr:∀l:z_ td,bH (l.map V.ref) (l.map y4):=λl=>by
  induction l with
  |nil=>exact .nil
  |cons a l ih=>exact .cons rfl ih
 refine⟨_,as.map V.ref,Bt I ar,I.laidT (t':=tk) (ps:=as.zip (ks.map λkv=>[kv.1,kv.2])) kp ar (λp hp=>?_),vr as,?_⟩
 ·let⟨j,hj⟩:=y1L.mp hp;let ha:as[j]?=a_ p.1:=by have:=congrArg (λl=>l[j]?) k8;simp[hj]at this;show this.symm
  let⟨kv,e,_,e2,r1,r2,e3⟩:=each j p.1 ha;rw[hj]at e2;let eq2:p.2=[kv.1,kv.2]:=by have:=yx e2;rw[this]
  refine⟨by rw[eq2,zr];change 2<=16777216;decide,[e.key,e.val],by rw[eq2];show .cons r1 (.cons r2 .nil),⟨_,e3,rfl,⟨0,rfl⟩,rfl⟩⟩
 ·refine Rz (by rw[yh];omega) λi p v hp qw=>?_;rw[yy]at qw;let⟨t,ht,rfl⟩:=zq.mp qw;let⟨kv,e,c8,e2,_⟩:=each i t ht;let⟨p1,p2,kv',rfl,g9,q1,q2⟩:=ent i p hp;rw[c8]at g9;cases g9
  let T:=Kp.same (Bt I ar);show⟨t,[kv.1,kv.2],rfl,.inl (.inl (Em nd e2)),q1.mono yk T,q2.mono yk T,trivial⟩
theorem Kl{k:Nat}{q:td}{f:Fn}{kb:Nat}(c:q0j X)(D:Def C.K X.mg x st q fd pn)(G:N_ q fd pn (spM C 1 f))(hj:j+2<=k)(o5:∀v,argsOk "sorted" ⟨[v],kw⟩)(aq:∀v,argsOk "list.sort" ⟨[.ref v],kw⟩)(ht:∀v,Builtin.«list.sort» ⟨[.ref v],kw⟩=ksk_tree v (.ref q) b){Q:VK}(I:Q_ s)(ru:RelV v u)(h:r1 C (tU f b kb) v H Q):
  wpAny (g_ X) X.A (call (.builtin "sorted") [u] kw) (q0g Q) X.xe s:=by
 let⟨φ,h,p,rh,rp,po⟩:=h;unfold tU at po;cases ei:BF p h with
 |none=>rw[ei]at po;show po.elim
 |some ys=>
 rw[ei]at po;let⟨h64,po⟩:=po.ite;refine call_function_entry_kw kind_sorted plain_sorted entry_sorted (o5 u) ?_;unfold Builtin.«sorted»;refine xr (m:=checkCount "sorted" 1 1 _) (xw ?_);let col:wpAny (g_ X) X.A.in1 (collect u) (λits s1=>∃H1 us,E8 H H1/\j_ H1 s1/\bH us its/\RVs C φ H1 ys us) X.xe s:=by
  let c6:∀{a:td}{vs:z_ V},v=.ref a->SqL C.K H a vs->G_ ys vs->wpAny (g_ X) X.A.in1 (collect u) (λits s1=>∃H1 us,E8 H H1/\j_ H1 s1/\bH us its/\RVs C φ H1 ys us) X.xe s:=λ{a vs} ev sa ra=>by
   subst ev;cases ru
   let j4:SqL X.K H a vs:=by rw[c.K];show sa
   let⟨its,rv,pl,hz⟩:=I.list j4;refine collect_list pl.isList ?_ (by have:=rv.length;have:=ra.length;rw[zr];omega);show⟨H,vs,λ_ _ z=>z,I.kept (t':=s.toks) λb o e=>by
    let ak:b<(e_ s):=yj e
    first
     |(rw[Heap.get?_update_ne _ _ _ _ (yt ak),y1z _ _ _ (yt ak)];show e)
     |exact yc _ e,rv,ra⟩
  unfold BF at ei;split at ei
  ·rename_i n;let⟨a,ev,ha⟩:=rp;split at ei
   ·rename_i ys' e;cases ei
    let⟨a2,vs,aq,sa,ra⟩:=gR rh e;rw[ha]at aq;cases aq;show c6 ev sa ra
   ·unfold IF at ei;split at ei
    ·rename_i d hv;split at ei
     ·rename_i o ho;subst ev;cases ru
      let⟨bb,hb,hH⟩:=q0h hv;show P5 c I rh hb hH ho ei h64
     ·cases ei
    ·cases ei
  ·cases ei
   let⟨a,vs,ev,sa,ra⟩:=rp;show c6 ev sa.sq ra
  ·cases ei
 refine xr (y0R col (λits s1 hh=>?_) λ_ _ z=>z);let⟨H1,us,sm,I1,rv,ry⟩:=hh;let po:=po.weak yk (Kp.same sm);let rh:=rh.same sm;clear sm I;let oj:us.length=its.length:=rv.length;let ot:ys.length=us.length:=ry.length;refine xr (wpAny_newList ?_ (by rw[zr];omega));let fu:(s1.heap.push (seqObj "list" its.toArray 0)).get? (e_ s1)=a_ (seqObj "list" its.toArray 0):=q0O 0;let keep:∀b o,s1.heap.get? b=a_ o->b≠(e_ s1)/\(s1.heap.push (seqObj "list" its.toArray 0)).get? b=a_ o:=λb o q=>⟨yt (yj q),yc _ q⟩;let fr:∀kS,(e_ s1)<=kS->X.s₀.heap.objs.size<=kS/\kS≠X.env.locals/\(∀x c,S_ 0=a_ c->c≠kS)/\(∀p∈X.pn++P1,p.1≠kS)/\kS∉X.fs:=λkS hk=>K7 I1 hk
 change F_ _ _ _ {s1 with heap:=s1.heap.push (seqObj "list" its.toArray 0)}
 refine xr (y0c (wpAny_call_entry_kw slot_list_sort ⟨_,fu,rfl⟩ entry_list_sort ?body (aq _)))
 case body=>
  change wpAny (g_ X) X.A.in1.in1 (Builtin.«list.sort» ⟨[.ref (e_ s1)],kw⟩) _ _ _
  rw[ht (e_ s1)];refine Ep (s:={s1 with heap:=s1.heap.push (seqObj "list" its.toArray 0)}) (a:=(e_ s1)) (κ:=tuples' (decide (kb≠2))) (vs:=its) fu ⋯ (Rv C X P1 σ φ H1 f b kb ys Q (e_ s1) (e_ s1)) ?h0 ?gg ?turn ?fin
  case h0=>
   intro kS e1 h' kp hk g1 g2;let e9:(e_ s1)<kS:=by have:(s1.heap.push (seqObj "list" its.toArray 0)).objs.size<=kS:=hk;rw[y1x]at this;show this
   let I2:j_ H1 {s1 with heap:=h'}:=I1.kept (t':=s1.toks) λb o q=>kp b o (keep b o q).1 (keep b o q).2;let fk:=fr kS (y0G e9);let fa:=fr (e_ s1) (yg _);refine⟨e9,H1,φ,h,[],[],I2.pins_of λp hp=>?_,yk,Kp.refl H1,rh,.nil,trivial,po⟩;rcases zf.mp hp with hp|hp
   ·show I2.pin p (yf _ hp)
   ·rcases yr.mp hp with rfl|hp
    ·show⟨g2,I1.hok.fresh (y0G e9),fk.2.1,fk.2.2.2.2,lG⟩
    ·rw[y0.mp hp];show⟨g1,I1.hok.fresh (yg _),fa.2.1,fa.2.2.2.2,lG⟩
  case gg=>rintro kS e1 ks e s' ⟨hz,H',φ',h',zs,ps,I',_⟩;show⟨y0x hz,(I'.pin (s1.heap.objs.size,seqObj "list" #[] e1) (yf _ (yf _ (yd _ ye)))).1,(I'.pin (kS,seqObj "list" ks.toArray e) (yf _ (yf _ ye))).1⟩
  case turn=>intro kS e1 ks e s' y hy hJ;show P4 c D G hj ry rv rfl fr kS e1 ks e s' y hy hJ
  case fin=>
   rintro kS e1 ks e s' hl ⟨hz,H',φ',h',zs,ps,I',pp,tt,cg,rz,rp',po'⟩;let hd:ys.drop ks.length=[]:=List.drop_eq_nil_of_le ⋯;rw[hd]at po';unfold oA at po';cases es:Hu b kb ps ys with
   |none=>rw[es]at po';show po'.elim
   |some out=>
   rw[es]at po';unfold Hu at es;split at es
   ·rename_i hc;let⟨hc1,cx,ok,ux⟩:=hc;cases es
    let my:ps.length=zs.length:=rp'.length;let hzk:zs.length=ks.length:=rz.length;let hu:=c.hu64;let hr:HRs s'.heap ps ks:=Ir I' c.K 20 ok.ky rp' rz;let memD:∀i,i<its.length->ps.getD i .non∈ps:=λi hi=>by
     let h1:i<ps.length:=⋯;have:ps.getD i .non=ps[i]:=by simp[h1]
     rw[this];show zp h1
    refine⟨λi j=>ltN (ps.getD i .non) (ps.getD j .non),λi j k hi hj hk h1 h2=>R5 h1 h2,λi j hi hj h=>R6 h,λh2 Q' E' hq=>?_,λi j hi hj Q' hq=>?_,λp g e2 a1 a2 kp he gk=>?_⟩
    ·show Uw ok.m3 hr ok.fk ⋯ hq
    ·let mi:=memD i hi;let mj:=memD j hj;let⟨bb,hb⟩:=y1l.mp (ok.lt _ mi _ mj);let hq:Q' (ltN (ps.getD i .non) (ps.getD j .non)) s':=hq;rw[Xg hb]at hq;let⟨qs,eq,_⟩:=Ra ok.m3 (ok.fk _ mj);show R9 (n:=19) (by change X.A.units+1+1+19<cLine;omega) (ok.ky _ mi) (ok.ky _ mj) (Ra ok.m3 (ok.fk _ mi)) ⟨qs,eq⟩ (hr.getD ⋯) (hr.getD ⋯) hb hq
    ·let ay:∀i∈p,i<its.length:=λi hi=>by simpa using a1.mem_iff.mp hi
     let fa:=fr (e_ s1) (yg _);let fk:=fr kS (y0G hz);let t9:=I'.pin (kS,seqObj "list" ks.toArray e) (yf _ (yf _ ye));let og:=I'.pin (s1.heap.objs.size,seqObj "list" #[] e1) (yf _ (yf _ (yd _ ye)));let I5:j_ H' s':=I'.unpinned;let I6:=I5.adopt (a:=(e_ s1)) (d:=kS) (o:=.lst (p.map λi=>us.getD i .non)) (h':=g) og.2.1 t9.2.1 fa fk (λx o h1 h2 q=>kp x o h1 h2 q) (by refine⟨?_,p.map (λi=>its.getD i yp),e2,xO rv (λi hi=>by have:=ay i hi;omega),he⟩;rw[yh,a1.length_eq,y1A,zr];omega)
     refine⟨_,rfl,xw ⟨_,rfl,.ref (e_ s1),_,I6,rfl,?_⟩⟩;refine po'.lnew cg ?_ og.2.1;rw[<-Kj (b:=b) cx ok ux (p:=p) (by rw[ot,oj];show a1) a2];show(ry.mono pp tt).pick (λi hi=>by have:=ay i hi;omega)
   ·cases es
section
variable{q:td}{jb:Nat}{f:Fn}{p rp jg:Pos}
theorem P6{Q:VK}{kb:Nat}(h:rd C (DI f b kb me) σ H Q):Q6 (rd C me) Q5 σ H λvs H1=>∃x,vs=[x]/\r1 C (tU f b kb) x H1 Q:=by let⟨φ,δ,h,rh,re,po⟩:=h;refine⟨φ,δ,h,rh,re,(post.bind po).imp ?_⟩;rintro v H1 ⟨φ1,x,h1,p1,t1,af,ag,q1⟩;show⟨v,rfl,φ1,h1,x,af,ag,q1⟩
theorem RA{k:Nat}{kb:Nat}(D:Def C.K X.mg kf st q fd pn)(G:N_ q fd pn (spM C 1 f))(he:I_ e me)(hb:("sorted" : Str)∈C.bs)(hj:j+2<=k:=by decide)(hg:Gl X "sorted" := by rfl)(u4:Gl X kf:=by rfl)(hdk:(kf == ("__debug__" : Str))=false:=by decide)(bp:yz [e] X.env=(false,q0d 0)::yz [] X.env:=by rfl)(rj:q0m (yz [e] X.env)=(false,q0d 0)::q0m (yz [] X.env):=by rfl)(ar:(q0m (yz [e] X.env)).any (·.1)=false:=by rfl):
  I_ (.Call (.Name "sorted" p) [e] [⟨a_ "key",.Name kf kp,dt⟩] pos) (DI f false kb me):=λc P1 s σ H Q I h=>by
 refine y0y (vG I hg (c.bn _ hb) PyProof.Rows.Boot.«sorted» ?_ nofun nofun);refine callWith_kw (thn (Dz (he c) HL bp pos P1 s σ H _ I (P6 h)) λus s1 hh=>?_) rj ar;let⟨vs,H1,I1,rv,x,rfl,r⟩:=hh;let⟨u,rfl,ru⟩:=vals1 rv;refine kws_cons (sZ I1 u4 D.mg (kws_nil ?_) hdk)
 change F_ (call (.builtin "sorted") [u] [(yi "key",.ref q)]) _ _ _
 show Kl c D G hj (λv=>ksk_s1 _ _) (λv=>ksk_l1 _ _) (λv=>ksk_t1 _ _) I1 ru r
end
section
variable{α:Type}
theorem RB{key emb:α->PV}{f:Fn}{m:Nat}{xs:z_ α}{x:PV}{Q:PV->PH->Prop}(e:BF x h=a_ (xs.map emb))(h1:xs.length<64)(ok:OkN m (xs.map key))(hc:∀a∈xs,∀c∈xs,key a=key c->emb a=emb c)(hf:∀d∈xs,∀h(Q:PV->PH->Prop),(∀h',S1 h'->Q (key d) h')->(f [emb d] h).W Q)(k:∀(os:z_ α) h',S1 h'->os.Perm xs->os.Pairwise (λa c=>ltN (key c) (key a)=false)->Q (.ref h'.length) (h'++[.lst (os.map emb)])):(tU f false m x h).W Q:=by
 let⟨os,p,pw,es⟩:=UF h1 ok hc;unfold tU;rw[e];dsimp only;rw[if_pos (k_ h1)];show NF xs [] h hf es λh' hx=>k os h' hx p pw
end
@[simp]theorem Xw{f:Fn}:DI f b n m δ h=(m δ h).bind λx h1=>tU f b n x h1:=(rfl)
theorem Km{d:Nat}(e:h[n]?=a_ (.vw 0 d))(e2:h[d]?=a_ o):BF (.ref n) h=qG o:=by simp[BF,cB,IF,e,e2]
def IG(f:Fn):Me:=λ_ h=>f [] h
theorem UG{k:Nat}{p:Pos}{f:Fn}(D:Def C.K X.mg x st a fd ps)(G:N_ a fd ps (spM C 0 f))(hj:j<=k:=by decide)(hg:Gl X x:=by rfl)(bo:(x == ("__debug__" : Str))=false:=by decide):I_ (.Call (.Name x p) [] [] pos) (IG f):=λc=>by
 let e1:=c.K;let D':Def X.K X.mg x st a fd ps:=by rw[e1];show D
 let G':L_ CX0 j a fd ps (spM C 0 f):=by rw[e1];show G
 refine(Q8 G' (c.room.mono hj) hg D'.mg D'.fn.kp D'.bd .nil GI bo).imp λσ H Q h=>?_;let⟨φ,δ,h,rh,re,p⟩:=h;show⟨φ,h,[],rh,trivial,rfl,p⟩
@[simp]theorem Ye{f:Fn}:IG f δ h=f [] h:=(rfl)
def GEs(P:Params):z_ (Str×Str)->z_ y0A->Prop
 |[],[]=>True
 |kv::r,e::es=>e.hash=PyData.keyHash P kv.1/\(∃t,e.key=.str kv.1 t)/\(∃t,e.val=.str kv.2 t)/\GEs P r es
 |_,_=>False
def Xx(C:MC)(a:td)(kvs:z_ (Str×Str)):Prop:=(a == y0o)=false/\(kvs.map λkv=>(y1P kv.1:Key)).Nodup/\∃es ep,C.K.lookup a=a_ ⟨.type "dict",b_,.dict es ep,#[]⟩/\GEs C.w.params kvs es.toList
def CS:z_ (Str×Str)->Str->A_ Str
 |[],_=>b_
 |kv::r,z=>if kv.1=z then a_ kv.2 else CS r z
def gdV(o:A_ Str):PV:=match o with
 |some v=>.str v
 |none=>.non
def vGd(kvs:z_ (Str×Str)):PV->PH->Rs PV:=λp h=>match p with
 |.str z=>.ok (gdV (CS kvs z)) h
 |_=>.bad
theorem Hv{P:w_}{w:w4}:∀{kvs:z_ (Str×Str)}{es:z_ y0A},GEs w.params kvs es->∃vs:z_ (Key×r_),Pairs (cS P w) es vs/\vs.map (·.1)=(kvs.map λkv=>(y1P kv.1:Key))/\(∀e∈es,∃k,(cS P w).is k e.key=true/\e.hash=(cS P w).hash k)/\
  ∀z:Str,match CS kvs z with
   |some v=>∃t,valueAt vs (y1P z:Key)=a_ (.str v t)
   |none=>valueAt vs (y1P z:Key)=b_
 |[],[],_=>⟨[],.nil,rfl,(λ_ h=>nomatch h),λz=>rfl⟩
 |kv::r,e::es,⟨h1,⟨t1,h2⟩,⟨t2,h3⟩,h4⟩=>by
  let⟨vs,p,q,s,v⟩:=Hv (P:=P) h4;let hi:(cS P w).is (y1P kv.1:Key) e.key=true:=by rw[h2];show Cu P w _ _
  refine⟨((y1P kv.1:Key),e.val)::vs,.cons hi rfl p,by rw[yq,yq,q],λx hx=>?_,λz=>?_⟩
  ·rcases yr.mp hx with rfl|hx
   ·show⟨_,hi,h1⟩
   ·show s x hx
  ·let hv:=v z;unfold valueAt at hv⊢;unfold CS;rw[y1h];by_cases c:kv.1=z
   ·subst c;simp;show⟨t2,h3⟩
   ·let c2:¬ (y1P kv.1:Key)=y1P z:=λq=>c (Sum.inr.inj q);simp only[if_neg c,decide_eq_false c2];show hv
 |[],_::_,h=>h.elim
 |_::_,[],h=>h.elim
theorem UH{k:Nat}{kvs:z_ (Str×Str)}{p:Pos}(hm:X.mg x=c_ a)(g:Xx C a kvs)(he:I_ e m)(hg:Gl X x:=by rfl)(hd:(x == ("__debug__" : Str))=false:=by decide)(az:y16 (.Name x p) "get" X.env (eval (.Name x p) X.env)=eval (.Name x p) X.env:=by rfl)(d7:((backTo ai (yz [e] X.env)).all (λx=>!x.1)&&(backToKw ai (keywordEach [] X.env)).all (λx=>x.1.isSome)
   && decide (([e]:z_ x_).length+([]:z_ Keyword).length+(if([]:z_ Keyword).isEmpty then 0 else 1)<30))=true:=by rfl)(ba:(apos.endLine == ai.line)=true:=by rfl)(hs:backTo ai (yz [e] X.env)=[(false,q0d 0)]:=by rfl):I_ (.Call (.Attribute (.Name x p) "get" apos) [e] [] ai) (mUn (vGd kvs) m):=λc P1 s σ H Q I q=>by
 let⟨φ,δ,h,rh,re,po⟩:=q;let⟨g1,g2,es,ep,g3,g4⟩:=g;rw[<-c.w]at g4;rw[<-c.K]at g3;let⟨vs,p1,p2,p3,p4⟩:=Hv (P:=X.prog) g4;let dd:∀{H' s'},j_ H' s'->s'.heap.DictOf (cS X.prog X.w) a vs:=λI'=>⟨_,es,ep,I'.bk _ _ (I'.mod.kin _ _ g3),⟨rfl,rfl,rfl⟩,rfl,λx hx=>p3 x (k_ hx),p1,by rw[p2];show g2⟩;refine wpAny_Call_method az d7 ba y1u y0n PySem.F.type_dict_get (thn (N6 (v:=.ref a) hg hm rfl hd P1 s σ H (λv H'=>v=.ref a/\H'=H) I ⟨rfl,rfl⟩) λu s1 hz=>?_);let⟨x,H1,I1,rx,ex,eH⟩:=hz;subst ex eH;obtain rfl:u=y4 a:=rx;refine⟨(dd I1).typeIs,λb eb=>?_,?_⟩
 ·cases eb
  show⟨_,I1.bk _ _ (I1.mod.kin _ _ g3),rfl⟩
 rw[hs];refine y2f rfl (Calls.evalArgs_plain (Calls.spliced_cons (thn (he c P1 s1 σ H1 _ I1 ⟨φ,δ,h,rh,re,post.bind po⟩) ?_)));rintro iv s2 ⟨y,H2,I2,ry,φ2,py,h2,p22,t2,ao,cf,q2⟩;refine Calls.spliced_nil ?_;cases py with
 |str z=>
  obtain rfl:y=.str z:=cf;let q2:post C φ2 H2 (.ok (gdV (CS kvs z)) h2) Q:=q2;let ry':RelV (kV (y1P z:Key)) iv:=ry;refine y11 y0n (dd I2).typeIs y0K (y19 _ _) (meets_dict_get (cS X.prog X.w) a (CB ry') g1) ⟨_,(dd I2).mapOf,?_⟩;let hz:=p4 z;cases e1:CS kvs z with
  |none=>rw[e1]at hz q2;rw[hz];show⟨.non,H2,I2.tok _,rfl,q2.val ao rfl⟩
  |some v=>rw[e1]at hz q2;let⟨t,hz⟩:=hz;rw[hz];show⟨.str v,H2,I2.tok _,⟨t,rfl⟩,q2.val ao rfl⟩
 |_=>exact q2.elim
open PySem.W
def NG:Ms:=λ_ _=>.bad
theorem RC{k:Nat}:SSt C k X st NG:=λc _ _ σ H _ I h=>by let⟨φ,δ,h,rh,re,p⟩:=h;show p.elim
theorem getD_none{α:Type}{o:Array (A_ α)}{x:α}(h:(o.getD j (a_ x)).isNone=true):o[j]?=a_ b_:=by
 by_cases q:j<o.size
 ·let e:o.getD j (a_ x)=o[j]:=by simp[Array.getD,q]
  rw[e]at h;rw[y0N q,Option.isNone_iff_eq_none.mp h]
 ·let e:o.getD j (a_ x)=a_ x:=by simp[Array.getD,q]
  rw[e]at h;cases h
theorem sub_tuple_tuple:isSubtype (.type "tuple") (.type "tuple")=pure true:=isSubtype_tuple_tuple
def pS(n:Nat):Obj->Prop:=λo=>o.ExactSet/\∃es ep t,o.data=.set es ep t/\t.fits es.size=true/\es.size=n
end L2
namespace K62
open PySem L2
local macro_rules|`(p_ $x)=>`(mC (.int $x))
noncomputable section
def BG:Ms:=
 (aZ (eJ (cJ (aE CL (mV 1) (mCB pG (aB (mV 0) aL))))
  (cI (D_ (mV 0) (mV 1)))
  eY)
 (cI (p_ 0)))
def sP:Fn:=mFn 2 BG
def EX:Ms:=
 (aZ (dI 3 (q1g (aE cE (aE cE (aE Ie (mV 3) (mV 3)) (aE Ie (p_ 48271) (mV 3))) (mV 4)) (p_ 2147483647)))
  (tM (mMt isL (onL fT) (mV 2) (aB (mV 3) aL))))
def EY:Ms:=
 (aZ (dI 2 (oH aL))
 (aZ (dI 3 (aE cE (q1g (mV 0) (p_ 2147483647)) (p_ 48271)))
 (aZ (rD (vN (aB (aE cE (mV 1) (p_ 1)) aL)) (gN 4) EX)
 (cI (mSl (mV 2) (mP (p_ 1)) rC)))))
def sQ:Fn:=mFn 5 EY
def IH:Ms:=
 (aZ (dI 2 (mC (.str "abcdefghijklmnopqrstuvwxyz")))
 (aZ (dI 3 (jB 2 sQ (aB (mV 0) (aB (p_ 10) aL))))
 (aZ (dI 4 (mMt Xm Hn (mC (.str "")) (aB (gO [b_,a_ 2] (dM (mSl (mV 3) rC (mP (p_ 8)))) (gN 0) oI (D_ (mV 1) (q1g (mV 0) (p_ 26)))) aL)))
 (aZ (eJ (cJ (q0L (q1g (mV 0) (p_ 3)) (p_ 0)))
  (cI (gO [b_,a_ 4,a_ 3] (vN (aB (mV 1) aL)) (gN 0) oI (mSl (mV 1) rC (mP (aE cE (p_ 1) (q1g (aE cE (mV 0) (D_ (mV 2) (p_ 8))) (p_ 8)))))))
  eY)
 (aZ (dI 4 (mSl (mV 4) rC (mP (aE cE (p_ 1) (q1g (D_ (mV 3) (p_ 8)) (p_ 8))))))
 (aZ (dI 5 (q1g (D_ (mV 3) (p_ 9)) (mCB pG (aB (mV 4) aL))))
 (cI (gO [b_,a_ 4,a_ 2,a_ 5,a_ 3] (vN (aB (mV 1) aL)) (gN 0) oI (aE cE (aE cE (mSl (mV 1) rC (mP (mV 3))) (D_ (mV 2) (q1g (aE cE (aE G3 (D_ (mV 4) (p_ 9)) (p_ 8)) (aE Ie (p_ 5) (mV 0))) (p_ 26)))) (mSl (mV 1) (mP (aE cE (mV 3) (p_ 1))) rC))))))))))
def DJ:Fn:=mFn 6 IH
def RF:Ms:=
 (aZ (dI 3 (mCB iW (aB (mV 1) aL)))
 (aZ (dI 4 (D_ (mV 3) (q1g (D_ (mV 0) (p_ 2)) (mCB pG (aB (mV 3) aL)))))
 (aZ (dI 5 (D_ (mV 3) (q1g (D_ (mV 0) (p_ 3)) (mCB pG (aB (mV 3) aL)))))
 (aZ (eJ (cJ (q0L (q1g (D_ (mV 0) (p_ 6)) (p_ 16)) (p_ 7)))
  (dI 4 (dW (aB (D_ (mV 2) (p_ 0)) (aB (aE cE (aE OA (p_ 10) (p_ 6)) (q1g (D_ (mV 0) (p_ 2)) (p_ 7))) aL))))
  eY)
 (aZ (eJ (cJ (q0L (q1g (D_ (mV 0) (p_ 6)) (p_ 16)) (p_ 8)))
  (dI 5 (dW (aB (D_ (mV 2) (p_ 0)) (aB (aE cE (aE OA (p_ 10) (p_ 6)) (q1g (D_ (mV 0) (p_ 3)) (p_ 7))) aL))))
  eY)
 (aZ (dI 6 (D_ (oH (aB (mC (.str "a")) (aB (mC (.str "ab")) (aB (mC (.str "key")) (aB (mC (.str "b")) aL))))) (q1g (D_ (mV 0) (p_ 4)) (p_ 4))))
 (aZ (eJ (cJ (q0L (mMt lB Iv (mV 1) (aB (mV 5) (aB (mC (.str "map")) aL))) (mC (.str "row"))))
  (dI 6 (dW (aB (dW (aB (dW (aB (p_ 1) (aB (D_ (mV 2) (q1g (D_ (mV 0) (p_ 4)) (mCB pG (aB (mV 2) aL)))) (aB (aE cE (p_ 1) (q1g (D_ (mV 0) (p_ 5)) (p_ 9))) (aB (p_ 0) aL))))) aL)) (aB (aE Ic (aE Ie (q1g (aE G3 (D_ (mV 0) (p_ 5)) (p_ 16)) (p_ 2)) (p_ 2)) (p_ 1)) aL))))
  eY)
 (aZ (eJ (cJ (aE CL (q1g (D_ (mV 0) (p_ 1)) (p_ 8)) (p_ 3)))
  (aZ (dI 7 (D_ (oH (aB (mC (.str "map")) (aB (mC (.str "row")) (aB (mC (.str "map")) (aB (mC (.str "row")) (aB (mC (.str "count")) (aB (mC (.str "choice")) (aB (mC (.str "bag")) (aB (mC (.str "text")) aL))))))))) (q1g (aE G3 (D_ (mV 0) (p_ 2)) (p_ 64)) (p_ 8))))
  (cI (dW (aB (mC (.str "make")) (aB (mV 7) (aB (mV 5) (aB (mV 6) aL)))))))
  eY)
 (aZ (eJ (cJ (aE CL (q1g (D_ (mV 0) (p_ 1)) (p_ 8)) (p_ 6)))
  (cI (dW (aB (mC (.str "move")) (aB (mV 4) (aB (mV 5) (aB (mV 6) aL))))))
  eY)
 (aZ (eJ (cJ (q0L (q1g (D_ (mV 0) (p_ 1)) (p_ 8)) (p_ 6)))
  (cI (dW (aB (mC (.str "drop")) (aB (mV 4) aL))))
  eY)
 (cI (dW (aB (D_ (oH (aB (mC (.str "add")) (aB (mC (.str "choose")) (aB (mC (.str "put")) aL)))) (q1g (D_ (mV 0) (p_ 4)) (p_ 3))) (aB (mV 4) (aB (aE Ic (D_ (mV 0) (p_ 5)) (aE OA (p_ 10) (p_ 9))) aL)))))))))))))))
def Kn:Fn:=mFn 8 RF
def xW:Ms:=
 (aZ (dI 10 (q1g (D_ (mV 5) (aE cE (p_ 7) (mV 9))) (p_ 4)))
   (aZ (eJ (cJ (q0L (D_ (mV 1) (mV 9)) (mV 6)))
    (dI 10 (aE Ic (D_ (mV 7) (p_ 1)) (p_ 1)))
    eY)
   (eJ (cJ (aE vGt (mV 10) (p_ 0)))
    (tM (mMt isL (onL fT) (mV 8) (aB (dW (aB (D_ (mV 1) (mV 9)) (aB (mV 10) aL))) aL)))
    eY)))
def Hw:Ms:=
 (aZ (dI 5 (jB 2 sQ (aB (mV 4) (aB (p_ 10) aL))))
  (aZ (dI 6 (D_ (mV 1) (q1g (D_ (mV 5) (p_ 0)) (mCB pG (aB (mV 1) aL)))))
  (aZ (dI 7 (dW (aB (mV 6) (aB (aE cE (p_ 1) (mCB pG (aB (gO [b_,a_ 6] (dM (mV 3)) (gN 0) (cJ (q0L (D_ (D_ (mV 0) (p_ 0)) (p_ 0)) (mV 1))) (mV 0)) aL))) aL))))
  (aZ (dI 8 (oH aL))
  (aZ (rD (vN (aB (mCB pG (aB (mV 1) aL)) aL)) (gN 9) xW)
  (aZ (dI 11 (jB 3 Kn (aB (mV 5) (aB (mV 2) (aB (mV 1) aL)))))
  (aZ (eJ (cJ (q0L (D_ (mV 11) (p_ 0)) (mC (.str "make"))))
   (vS (D_ (mV 11) (p_ 1)) (mV 2) (mV 7))
   eY)
  (tM (mMt isL (onL fT) (mV 3) (aB (dW (aB (mV 7) (aB (mCB vM (aB (mCB rF (aB (mV 8) aL)) aL)) (aB (mV 11) aL)))) aL))))))))))
def II:Ms:=
 (aZ (dI 2 (ID (dW (aB (mC (.str "")) (aB (p_ 0) aL))) (mC (.str "map"))))
 (aZ (dI 3 (oH aL))
 (aZ (rD (dM (mV 0)) (gN 4) Hw)
 (cI (mV 3)))))
def DK:Fn:=mFn 12 II
def kL:Ms:=
 (aZ (mF "made" (mV 0) zG)
 (mF "failed" (mV 0) (oH aL)))
def cT:Fn:=mFn 1 kL
def RG:Ms:=(cI (dW (aB (aE cE (p_ 1) (mCB OK (aB (gO [b_,b_] (dM (D_ (mV 0) (p_ 1))) (gTp 2 (gCn (gN 0) (gCn (gN 1) gNl))) oI (mV 1)) aL))) (aB (D_ (D_ (mV 0) (p_ 0)) (p_ 0)) (aB (D_ (D_ (mV 0) (p_ 0)) (p_ 1)) aL)))))
def Hx:Fn:=mFn 1 RG
def tV:Ms:=
 (aZ (dI 2 (D_ (mV 1) (p_ 2)))
 (eJ (cJ (q0L (D_ (mV 2) (p_ 0)) (mC (.str "add"))))
  (Ri "total" (mV 0) (D_ (mV 2) (p_ 2)))
  eY))
def dS:Fn:=mFn 3 tV
def EZ:Ms:=
 (eJ (cJ (q0L (mV 2) (D_ (mV 1) (p_ 0))))
   (cI (aE vLe (D_ (mV 1) (p_ 1)) (mV 3)))
   eY)
def F0:Ms:=
 (aZ (rD (dM (mV 0)) (gTp 2 (gCn (gN 2) (gCn (gN 3) gNl))) EZ)
 (cI (mC (.bl false))))
def qI:Fn:=mFn 4 F0
def rY:Ms:=
 (aZ (AA (mV 1) (gTp 3 (gCn (gN 2) (gCn (gN 3) (gCn (gN 4) gNl)))))
 (eJ (cJ (q0L (D_ (mV 4) (p_ 0)) (mC (.str "choose"))))
  (aZ (dI 5 (gO [b_,a_ 3] (dM (mUn (cW "standing") (mV 0))) (gN 0) (vL (cJ (jB 2 qI (aB (mV 1) (aB (D_ (mV 0) (p_ 0)) aL))))) (mV 0)))
  (mF "standing" (mV 0) (aE cE (mV 5) (oH (aB (dW (aB (mV 2) (aB (D_ (mV 4) (p_ 2)) aL))) aL)))))
  eY))
def dB:Fn:=mFn 6 rY
def zO:Ms:=
 (aZ (AA (mV 1) (gTp 3 (gCn (gN 2) (gCn (gN 3) (gCn (gN 4) gNl)))))
 (eJ (cJ (q0L (D_ (mV 4) (p_ 0)) (mC (.str "put"))))
  (mF "standing" (mV 0) (aE cE (mUn (cW "standing") (mV 0)) (oH (aB (dW (aB (mV 2) (aB (D_ (mV 4) (p_ 2)) aL))) aL))))
  NG))
def gE:Fn:=mFn 5 zO
def qJ:Ms:=
 (aZ (eJ (cJ (q0L (mV 1) (mC (.tup [.str "",.int (0)]))))
  (cI (mC (.str "map")))
  eY)
 (cI (mIf (cJ (aE mG (mV 1) (mUn (cW "made") (mV 0)))) (D_ (D_ (mUn (cW "made") (mV 0)) (mV 1)) (p_ 0)) (mC .non))))
def dF:Fn:=mFn 2 qJ
def jE:Str->A_ Fn:=λ(z:Str)=>if z=("Tree" : Str) then a_ dF else(λ_=>b_) z
def tW:Ms:=(cI (q0L (eL "kind_of" 1 jE (mV 0) (aB (mV 1) aL)) (mIf (cJ (mCB yI (aB (mV 2) (aB (mC (.ty "str")) aL)))) (mC (.str "map")) (mC (.str "row")))))
def eO:Fn:=mFn 3 tW
def zP:Ms:=
 (aZ (AA (mV 0) (gTp 2 (gCn (gN 2) (gCn (gN 3) gNl))))
 (aZ (AA (mV 1) (gTp 2 (gCn (gN 4) (gCn (gN 5) gNl))))
 (cI (aE cE (mV 2) (dW (aB (dW (aB (mV 3) (aB (mV 4) (aB (mV 5) (aB (p_ 0) aL))))) aL))))))
def qK:Fn:=mFn 6 zP
def zQ:Ms:=(cI (mIf (cJ (mCB yI (aB (mV 0) (aB (mC (.ty "str")) aL)))) (mV 0) (jB 2 qK (aB (mV 0) (aB (mV 1) aL)))))
def kN:Fn:=mFn 2 zQ
def oB:Str->A_ Fn:=λ(z:Str)=>if z=("Tree" : Str) then a_ eO else(λ_=>b_) z
def mU:Ms:=
 (aZ (AA (mV 2) (gTp 4 (gCn (gN 3) (gCn (gN 4) (gCn (gN 5) (gCn (gN 6) gNl))))))
 (aZ (eJ (vL (cJ (eL "takes" 2 oB (mV 0) (aB (mV 5) (aB (mV 6) aL)))))
  (cI (mC (.str "idle")))
  eY)
 (aZ (vS (dW (aB (mV 4) (aB (mV 5) (aB (jB 2 kN (aB (mV 6) (aB (mV 1) aL))) aL)))) (mUn (cW "made") (mV 0)) (mV 1))
 (cI (mC (.str "done"))))))
def eZ:Fn:=mFn 7 mU
def zR:Ms:=(vS (dW (aB (D_ (D_ (mUn (cW "made") (mV 0)) (mV 1)) (p_ 0)) (aB (mV 2) (aB (mV 3) aL)))) (mUn (cW "made") (mV 0)) (mV 1))
def fJ:Fn:=mFn 4 zR
def yW:Ms:=
 (aZ (tM (mMt isL (onL fT) (mV 3) (aB (mV 4) aL)))
  (aZ (eJ (cJ (q0L (mV 4) (mV 1)))
   (cI (mV 3))
   eY)
  (dI 4 (D_ (D_ (mUn (cW "made") (mV 0)) (mV 4)) (p_ 1)))))
def vT:Ms:=
 (aZ (dI 3 (oH aL))
 (aZ (dI 4 (mV 2))
 (aZ (Ii 1000000 (cJ (aE mG (mV 4) (mUn (cW "made") (mV 0)))) yW)
 (cI (oH aL)))))
def lH:Fn:=mFn 5 vT
def DL:Str->A_ Fn:=λ(z:Str)=>if z=("Tree" : Str) then a_ lH else(λ_=>b_) z
def vU:Str->A_ Fn:=λ(z:Str)=>if z=("Tree" : Str) then a_ fJ else(λ_=>b_) z
def mW:Ms:=
 (aZ (AA (mV 2) (gTp 4 (gCn (gN 3) (gCn (gN 4) (gCn (gN 5) (gCn (gN 6) gNl))))))
 (aZ (eJ (vL (cJ (eL "takes" 2 oB (mV 0) (aB (mV 5) (aB (mV 6) aL)))))
  (cI (mC (.str "idle")))
  eY)
 (aZ (eJ (cJ (eL "ring" 2 DL (mV 0) (aB (mV 4) (aB (mV 5) aL))))
  (aZ (tM (mMt isL (onL fT) (mUn (cW "failed") (mV 0)) (aB (mV 1) aL)))
  (cI (mC (.str "lost"))))
  eY)
 (aZ (tM (eL "put" 3 vU (mV 0) (aB (mV 4) (aB (mV 5) (aB (jB 2 kN (aB (mV 6) (aB (mV 1) aL))) aL)))))
 (cI (mC (.str "done")))))))
def fB:Fn:=mFn 7 mW
def pK:Str->A_ Fn:=λ(z:Str)=>if z=("Tree" : Str) then a_ eZ else(λ_=>b_) z
def pL:Str->A_ Fn:=λ(z:Str)=>if z=("Tree" : Str) then a_ fB else(λ_=>b_) z
def vV:Ms:=
 (aZ (AA (mV 1) (gTp 3 (gCn (gN 2) (gCn (gN 3) (gCn (gN 4) gNl)))))
 (aZ (eJ (cJ (q0L (D_ (mV 4) (p_ 0)) (mC (.str "make"))))
  (cI (eL "hear_make" 2 pK (mV 0) (aB (mV 2) (aB (mV 4) aL))))
  eY)
 (aZ (eJ (cJ (aE jD (D_ (mV 4) (p_ 1)) (mUn (cW "made") (mV 0))))
  (cI (mC (.str "idle")))
  eY)
 (aZ (eJ (cJ (q0L (D_ (mV 4) (p_ 0)) (mC (.str "drop"))))
  (aZ (tM (eL "put" 3 vU (mV 0) (aB (D_ (mV 4) (p_ 1)) (aB (mC .non) (aB (mC .non) aL)))))
  (cI (mC (.str "done"))))
  eY)
 (cI (eL "hear_move" 2 pL (mV 0) (aB (mV 2) (aB (mV 4) aL))))))))
def cY:Fn:=mFn 5 vV
def mX:Ms:=(mF "total" (mV 0) (p_ 0))
def jQ:Fn:=mFn 1 mX
def rN:Ms:=(mF "standing" (mV 0) (oH aL))
def fV:Fn:=mFn 1 rN
def vW:Ms:=(mF "standing" (mV 0) (oH aL))
def jF:Fn:=mFn 1 vW
def mY:Ms:=(mF "kept" (mV 0) zG)
def jR:Fn:=mFn 1 mY
def mZ:Ms:=(mF "standing" (mV 0) (oH aL))
def jS:Fn:=mFn 1 mZ
def oM:Ms:=
 (aZ (mF "signs" (mV 0) (pC "Signs" 0 jR aL))
 (mF "marks" (mV 0) (pC "Marks" 0 jS aL)))
def kM:Fn:=mFn 1 oM
def xX:Ms:=
 (aZ (eJ (cJ (q0L (mV 0) (mC (.str "count"))))
  (cI (pC "Count" 0 jQ aL))
  eY)
 (aZ (eJ (cJ (q0L (mV 0) (mC (.str "choice"))))
  (cI (pC "Choice" 0 fV aL))
  eY)
 (aZ (eJ (cJ (q0L (mV 0) (mC (.str "bag"))))
  (cI (pC "Bag" 0 jF aL))
  eY)
 (aZ (eJ (cJ (q0L (mV 0) (mC (.str "text"))))
  (cI (pC "Text" 0 kM aL))
  eY)
 (cI (mC .non))))))
def pU:Fn:=mFn 1 xX
def kO:Ms:=
 (aZ (dI 3 (jB 1 pU (aB (mV 2) aL)))
 (eJ (cJ (aE Bw (mV 3) (mC .non)))
  (vS (mV 3) (mUn (cW "leaves") (mV 0)) (mV 1))
  eY))
def dR:Fn:=mFn 4 kO
def iH:Str->A_ Fn:=λ(z:Str)=>if z=("Count" : Str) then a_ dS else(λ(z:Str)=>if z=("Choice" : Str) then a_ dB else(λ(z:Str)=>if z=("Bag" : Str) then a_ gE else(λ(z:Str)=>if z=("Tree" : Str) then a_ cY else(λ_=>b_) z) z) z) z
def rO:Str->A_ Fn:=λ(z:Str)=>if z=("Folding" : Str) then a_ dR else(λ_=>b_) z
def kE:Ms:=
 (aZ (dI 2 (eL "hear" 1 iH (mUn (cW "tree") (mV 0)) (aB (mV 1) aL)))
 (aZ (dI 3 (D_ (mV 1) (p_ 2)))
 (aZ (eJ (Nk (cJ (q0L (D_ (mV 3) (p_ 0)) (mC (.str "make")))) (cJ (q0L (mV 2) (mC (.str "done")))))
  (tM (eL "add_leaf" 2 rO (mV 0) (aB (D_ (mV 1) (p_ 0)) (aB (D_ (mV 3) (p_ 1)) aL))))
  eY)
 (cI (mV 2)))))
def dH:Fn:=mFn 4 kE
def tX:Ms:=(cI (mUn (vGd [("add","count"),("choose","choice"),("put","bag"),("take","bag"),("write","text"),("cut","text"),("mark","text"),("clear","text")]) (mV 0)))
def iI:Fn:=mFn 1 tX
def pM:Str->A_ Fn:=λ(z:Str)=>if z=("Folding" : Str) then a_ dH else(λ_=>b_) z
def qL:Ms:=
 (aZ (dI 2 (D_ (mV 1) (p_ 2)))
 (aZ (eJ (cJ (aE mG (D_ (mV 2) (p_ 0)) (dW (aB (mC (.str "make")) (aB (mC (.str "move")) (aB (mC (.str "drop")) aL))))))
  (cI (eL "hear_tree" 1 pM (mV 0) (aB (mV 1) aL)))
  eY)
 (aZ (eJ (cJ (aE jD (D_ (mV 2) (p_ 0)) (dW (aB (mC (.str "back")) (aB (mC (.str "settle")) aL)))))
  (aZ (eJ (cJ (aE vNe (eL "kind_of" 1 jE (mUn (cW "tree") (mV 0)) (aB (D_ (mV 2) (p_ 1)) aL)) (jB 1 iI (aB (D_ (mV 2) (p_ 0)) aL))))
   (cI (mC (.str "idle")))
   eY)
  (tM (eL "hear" 1 iH (D_ (mUn (cW "leaves") (mV 0)) (D_ (mV 2) (p_ 1))) (aB (mV 1) aL))))
  eY)
 (cI (mC (.str "done"))))))
def dX:Fn:=mFn 3 qL
def G4:Ms:=(vS (dW (aB (mV 4) (aB (mV 5) (aB (mV 6) aL)))) (mUn (cW "made") (mV 0)) (mV 3))
def vX:Ms:=
 (aZ (mF "made" (mV 0) zG)
 (aZ (rD (dM (mV 1)) (gTp 4 (gCn (gN 3) (gCn (gN 4) (gCn (gN 5) (gCn (gN 6) gNl))))) G4)
 (mF "failed" (mV 0) (mCB iW (aB (mV 2) aL)))))
def lI:Fn:=mFn 7 vX
def DM:Str->A_ Fn:=λ(z:Str)=>if z=("Tree" : Str) then a_ lI else(λ_=>b_) z
def vY:Ms:=
 (aZ NG
  NG)
def kQ:Ms:=
 (aZ (AA (mV 1) (gTp 2 (gCn (gN 2) (gCn (gN 3) gNl))))
 (aZ (mF "tree" (mV 0) (pC "Tree" 0 cT aL))
 (aZ (tM (eL "fill" 2 DM (mUn (cW "tree") (mV 0)) (aB (gO [b_] (dM (mV 2)) (gN 0) oI (mSl (mV 0) rC (mP (p_ 4)))) (aB (mV 3) aL))))
 (aZ (mF "leaves" (mV 0) zG)
 (rD (dM (mV 2)) (gTp 5 (gCn (gN 4) (gCn (gN 5) (gCn (gN 6) (gCn (gN 7) (gCn (gN 8) gNl)))))) vY)))))
def fK:Fn:=mFn 9 kQ
def DN:Ms:=(cI (aE cE (p_ 1) (mCB OK (aB (gO [b_] (dM (D_ (mV 0) (p_ 1))) (gN 0) oI (D_ (mV 0) (p_ 1))) aL))))
def DO:Fn:=mFn 1 DN
def Mn:Ms:=
 (aZ (AA (D_ (mV 0) (p_ 0)) (gTp 2 (gCn (gN 1) (gCn (gN 2) gNl))))
 (cI (dW (aB (jB 1 DO (aB (mV 0) aL)) (aB (mV 1) (aB (mV 2) aL))))))
def IJ:Fn:=mFn 3 Mn
def AM:Ms:=(vS (mV 2) (mV 1) (D_ (mV 2) (p_ 0)))
def zS:Ms:=
 (aZ (dI 1 zG)
 (aZ (rD (dM (mV 0)) (gN 2) AM)
 (cI (zM IJ false (JT lB K5 (mV 1))))))
def tY:Fn:=mFn 3 zS
def oO:Ms:=(cI (mUn (cW "total") (mV 0)))
def iM:Fn:=mFn 1 oO
def nB:Ms:=(cI (mCB iW (aB (mUn (cW "standing") (mV 0)) aL)))
def gY:Fn:=mFn 1 nB
def rZ:Ms:=(cI (mCB iW (aB (mUn (cW "standing") (mV 0)) aL)))
def kH:Fn:=mFn 1 rZ
def tZ:Ms:=(cI (gO [b_] (dM (mUn (cW "standing") (mV 0))) (gN 0) oI (aE cE (mSl (mV 0) rC (mP (p_ 4))) (dW (aB (mCB iW (aB (D_ (mV 0) (p_ 4)) aL)) aL)))))
def eQ:Fn:=mFn 1 tZ
def Hy:Ms:=(cI (aE cE (mV 0) (dW (aB (dW (aB (p_ 0) aL)) aL))))
def BH:Fn:=mFn 1 Hy
def F1:Ms:=(cI (jB 1 BH (aB (D_ (mV 0) (p_ 0)) aL)))
def zT:Fn:=mFn 1 F1
def uA:Ms:=(cI (DI zT false 2 (JT lB pJ (mUn (cW "kept") (mV 0)))))
def eR:Fn:=mFn 1 uA
def vZ:Ms:=(cI (D_ (mV 0) (p_ 0)))
def wA:Fn:=mFn 1 vZ
def wB:Ms:=(cI (zM wA false (EU true (JT lB pJ (mUn (cW "made") (mV 0))) (gO [b_,b_] (Hs true (JT lB pJ (mUn (cW "made") (mV 0)))) (gTp 2 (gCn (gN 0) (gCn (gN 1) gNl))) oI (aE cE (dW (aB (mV 0) aL)) (mV 1))))))
def eX:Fn:=mFn 1 wB
def eC:Str->A_ Fn:=λ(z:Str)=>if z=("Marks" : Str) then a_ eQ else(λ(z:Str)=>if z=("Signs" : Str) then a_ eR else(λ(z:Str)=>if z=("Tree" : Str) then a_ eX else(λ_=>b_) z) z) z
def qM:Ms:=(cI (dW (aB (eL "rows" 0 eC (mUn (cW "signs") (mV 0)) aL) (aB (eL "rows" 0 eC (mUn (cW "marks") (mV 0)) aL) aL))))
def jG:Fn:=mFn 1 qM
def eG:Str->A_ Fn:=λ(z:Str)=>if z=("Count" : Str) then a_ iM else(λ(z:Str)=>if z=("Choice" : Str) then a_ gY else(λ(z:Str)=>if z=("Bag" : Str) then a_ kH else(λ(z:Str)=>if z=("Text" : Str) then a_ jG else(λ_=>b_) z) z) z) z
def jH:Ms:=(cI (mIf (cJ (aE mG (mV 1) (mUn (cW "leaves") (mV 0)))) (eL "content" 0 eG (D_ (mUn (cW "leaves") (mV 0)) (mV 1)) aL) (mC .non)))
def cZ:Fn:=mFn 2 jH
def wC:Ms:=(cI (mCB iW (aB (mUn (cW "failed") (mV 0)) aL)))
def fW:Fn:=mFn 1 wC
def pN:Str->A_ Fn:=λ(z:Str)=>if z=("Tree" : Str) then a_ fW else(λ_=>b_) z
def kI:Str->A_ Fn:=λ(z:Str)=>if z=("Folding" : Str) then a_ cZ else(λ_=>b_) z
def qN:Ms:=(cI (dW (aB (gO [b_,a_ 0] (dM (eL "rows" 0 eC (mUn (cW "tree") (mV 0)) aL)) (gN 0) oI (aE cE (mV 0) (dW (aB (eL "content_of" 1 kI (mV 1) (aB (D_ (mV 0) (p_ 0)) aL)) aL)))) (aB (eL "lost" 0 pN (mUn (cW "tree") (mV 0)) aL) aL))))
def gZ:Fn:=mFn 1 qN
def gG:Str->A_ Fn:=λ(z:Str)=>if z=("Count" : Str) then a_ dS else(λ(z:Str)=>if z=("Choice" : Str) then a_ dB else(λ(z:Str)=>if z=("Bag" : Str) then a_ gE else(λ(z:Str)=>if z=("Tree" : Str) then a_ cY else(λ(z:Str)=>if z=("Folding" : Str) then a_ dX else(λ_=>b_) z) z) z) z) z
def DP:Str->A_ Fn:=λ(z:Str)=>if z=("Folding" : Str) then a_ gZ else(λ_=>b_) z
def Ko:Ms:=(tM (eL "hear" 1 gG (mV 2) (aB (mV 3) aL)))
def Mp:Ms:=
 (aZ (dI 2 (pC "Folding" 1 fK (aB (mV 0) aL)))
 (aZ (rD (dM (jB 1 tY (aB (mV 1) aL))) (gN 3) Ko)
 (cI (eL "base" 0 DP (mV 2) aL))))
def F2:Fn:=mFn 4 Mp
def IK:Ms:=(cI (dW (aB (oH aL) (aB (oH aL) aL))))
def xY:Fn:=mFn 0 IK
def DQ:Ms:=
 (eJ (cJ (aE mG (D_ (D_ (mV 6) (p_ 2)) (p_ 0)) (oH (aB (mC (.str "make")) (aB (mC (.str "move")) (aB (mC (.str "drop")) aL))))))
   (tM (eL "hear" 1 gG (mV 5) (aB (mV 6) aL)))
   eY)
def DR:Ms:=
 (aZ (eJ (JQ (vL (cJ (mCB yI (aB (mV 9) (aB (mC (.ty "tuple")) aL))))) (cJ (aE vNe (mCB pG (aB (mV 9) aL)) (p_ 5))))
   (cI (mC (.bl false)))
   eY)
  (eJ (cJ (aE vNe (aE vIs (D_ (mV 9) (p_ 4)) (mC .non)) (U8 (q0L (D_ (mV 9) (p_ 1)) (mC (.str "map"))) (q0L (D_ (mV 9) (p_ 1)) (mC (.str "row"))))))
   (cI (mC (.bl false)))
   eY))
def RI:Ms:=
 (aZ (dI 1 (jB 2 sP (aB (mV 0) (aB (p_ 0) aL))))
 (aZ (dI 2 (jB 2 DJ (aB (mV 1) (aB (aE cE (p_ 1) (q1g (aE G3 (mV 1) (p_ 24)) (p_ 3))) aL))))
 (aZ (dI 3 (jB 2 DK (aB (mSl (mV 0) (mP (p_ 1)) (mP (p_ 41))) (aB (mV 2) aL))))
 (aZ (dI 4 (mCB iW (aB (mV 3) aL)))
 (aZ (eJ (cJ (q0L (q1g (aE G3 (mV 1) (p_ 72)) (p_ 2)) (p_ 1)))
  (dI 4 (aE cE (mUn Hl (mV 3)) (mSl (mV 3) rC (mP (p_ 4)))))
  eY)
 (aZ (dI 5 (pC "Tree" 0 cT aL))
 (aZ (rD (dM (zM Hx false (mV 3))) (gN 6) DQ)
 (aZ (AA (jB 2 F2 (aB (IG xY) (aB (mV 4) aL))) (gTp 2 (gCn (gN 7) (gCn (gN 8) gNl))))
 (aZ (eJ (JQ (vL (cJ (mCB yI (aB (mV 7) (aB (mC (.ty "list")) aL))))) (JQ (vL (cJ (mCB yI (aB (mV 8) (aB (mC (.ty "list")) aL))))) (cJ (aE vNe (mV 8) (eL "lost" 0 pN (mV 5) aL)))))
  (cI (mC (.bl false)))
  eY)
 (aZ (rD (dM (mV 7)) (gN 9) DR)
 (cI (q0L (gO [b_] (dM (mV 7)) (gN 0) oI (mSl (mV 0) rC (mP (p_ 4)))) (eL "rows" 0 eC (mV 5) aL)))))))))))))
def RJ:Fn:=mFn 10 RI
end
abbrev Seen:=z_ (Str×Int)
def look:Seen->Str->A_ Int
 |[],_=>b_
 |p::r,h=>if p.1=h then a_ p.2 else look r h
theorem P7(p:Str×Int)(r:Seen)(h:Str):look (p::r) h=if p.1=h then a_ p.2 else look r h:=(rfl)
def emb(kvs:Seen):z_ (Key×PV):=kvs.map λp=>(.inr p.1,.int p.2)
def row(p:Str×Int):z_ Key:=[.inr p.1,.inl p.2]
def sv(S:Seen):PV:=.tup (S.map λp=>.tup [.str p.1,.int p.2])
def Zk:z_ Key->Str×Int
 |[.inr x,.inl n]=>(x,n)
 |_=>("",0)
theorem P8(D:Seen):yJ (D.map row)=true:=by
 cases D with
 |nil=>rfl
 |cons p r=>rw[yq];unfold yJ;rw[zg];refine⟨rfl,y1.mpr λz hz=>?_⟩;let⟨q,_,rfl⟩:=y6.mp hz;rfl
variable{S:Seen}{h:PH}{n:Nat}
theorem P9(e:h[n]?=a_ (.lst ((S.map row).map tP))):vM [.ref n] h=.ok (sv S) h:=by
 simp[vM,cB,e];unfold sv;congr 1
abbrev Kr:Str:="abcdefghijklmnopqrstuvwxyz"
theorem RK:Kr.cps.toList.length=26:=by decide +kernel
theorem Hz:Kr.length=26:=by decide +kernel
theorem RL:∀i:Fin 26,Kr.cps.toList[i.val]?=a_ (97+i.val):=by decide +kernel
variable{c:Nat}
theorem RM{x:Str}:(x++(⟨#[c]⟩:Str)).length=x.length+1:=by rw[Str.length_append];rfl
theorem NH{i:Int}(h0:0<=i)(h1:i<26):atI Kr.cps.toList i=a_ (97+i.toNat):=by rw[Ui h0 (by rw[RK];show h1)];show RL ⟨i.toNat,⋯⟩
variable{j:Int}{z:Str}
theorem RN(h0:0<=j)(h1:j<=z.length):(y0T z b_ (a_ j)).cps.toList=z.cps.toList.take j.toNat:=by
 let fv:j<=z.cps.toList.length:=by simpa[y2e] using h1
 let e:y0T z b_ (a_ j)=⟨((z.cps.toList.drop 0).take (j-0).toNat).toArray⟩:=StrLaws.sliceText_to ⟨h0,fv⟩;rw[e];simp
theorem Mq(h0:0<=j)(h1:j<=z.length):(y0T z (a_ j) b_).cps.toList=z.cps.toList.drop j.toNat:=by
 let fv:j<=z.cps.toList.length:=by simpa[y2e] using h1
 let e:=StrLaws.sliceText_from (x:=z) ⟨h0,fv⟩;let e':y0T z (a_ j) b_=_:=e;rw[e']
 change List.take _ _=_
 rw[List.take_of_length_le];rw[List.length_drop];omega
theorem len_list(z:Str):z.cps.toList.length=z.length:=by simp[y2e]
def pv(p:Str×Int):PV:=.tup [.str p.1,.int p.2]
theorem RP(S:Seen):sv S=.tup (S.map pv):=rfl
theorem P'(D:Seen):∃S:Seen,oK (D.map row)=S.map row:=by
 let hp:=lE (D.map row);refine⟨(oK (D.map row)).map Zk,?_⟩;rw[z7]
 conv=>lhs;rw[<-List.map_id (oK (D.map row))]
 apply y0B;intro z hz;let⟨p,_,rfl⟩:=y6.mp (hp.mem_iff.mp hz);rfl
variable{o:MO}
theorem AN{hX:PH}(x:S1 hX):S1 (hX.set h.length o):=λn o' e=>by let hn:=(xt.mp e).1;rw[y0i ⋯];show x n o' e
def cell(ns:z_ Int)(i:Nat):Int:=ns.getD i 0
theorem UI(ns:z_ Int)(i:Nat)(h:PH):sP [.fl (q1s 0),.int i] h=.ok (.int (cell ns i)) h:=by
 let w:(sP [.fl (q1s 0),.int i] h).W λp h'=>p=.int (cell ns i)/\h'=h:=by
  refine eD ?_;simp[BG,aS];split
  ·rename_i z;let z':i<ns.length:=⋯;let e:atI (q1s 0) (i:Int)=d_ (cell ns i):=lY (by simp[cell,z']);simp[e]
  ·rename_i z;rfl';have:ns.length<=i:=⋯;simp[cell,this]
 let⟨p,h',e,rfl,rfl⟩:=pH w;show e
inductive Kd where
 |settle
 |back (f l:Int)
 |other
deriving DecidableEq
structure Dd where
 nm:Str×Int
 seen:Seen
 kd:Kd
 act:z_ PV
def dP(d:Dd):PV:=.tup [pv d.nm,sv d.seen,.tup d.act]
def WfA:Kd->z_ PV->Prop
 |.settle,a=>a=[.str "settle"]
 |.back f l,a=>a=[.str "back",.int f,.int l]
 |.other,a=>∃w r,a=.str w::r/\w≠"settle" /\ w≠"back"
structure Wf(d:Dd):Prop where
 len:d.seen.length<=100
 act:WfA d.kd d.act
 pl:d.act.all (PV.pl 37)=true
def tot(S:Seen):Int:=(S.map (·.2)).sum
def kyL(d:Dd):z_ Key:=[.inl (1+tot d.seen),.inr d.nm.1,.inl d.nm.2]
theorem dP0{d:Dd}:vIx (dP d) (.int 0) h=.ok (pv d.nm) h:=by unfold dP;simp
theorem dP1{d:Dd}:vIx (dP d) (.int 1) h=.ok (sv d.seen) h:=by unfold dP;simp
theorem dP2{d:Dd}:vIx (dP d) (.int 2) h=.ok (.tup d.act) h:=by unfold dP;simp
theorem pv0{p:Str×Int}:vIx (pv p) (.int 0) h=.ok (.str p.1) h:=by unfold pv;simp
theorem pv1{p:Str×Int}:vIx (pv p) (.int 1) h=.ok (.int p.2) h:=by unfold pv;simp
theorem zU{p q:Str×Int}(e:pv p=pv q):p=q:=by unfold pv at e;let e':=PV.tup.inj e;simp at e';show Prod.ext e'.1 e'.2
theorem Zl{p:Str×Int}:(PV.tup [.str p.1,.int p.2]).ky 6=true:=rfl
theorem RQ(d:Dd)(hS:d.seen.length<=100)(h:PH)(Q:PV->PH->Prop)(k:∀h',S1 h'->Q (.int (1+tot d.seen)) h'):(DO [dP d] h).W Q:=by
 refine eD ?_;let hc:=Hd (js:=[b_]) (tg:=gN 0) (tst:=oI) (elt:=D_ (mV 0) (p_ 1)) (m:=D_ (mV 0) (p_ 1)) (δ:=[a_ (dP d)]) (h:=h) (h1:=h) (ys:=d.seen) (emb:=pv)
  (λq=>d_ q.2) (by simp[dP1,RP]) ⋯ (λq hq=>⟨_,rfl,λh3 _=>⟨rfl,by simp[nY,pv1]⟩⟩)
 let es:d.seen.filterMap (λq=>a_ (PV.int q.2))=(d.seen.map (·.2)).map PV.int:=by rw[filterMap_some,z7];rfl
 rw[es]at hc;let gs:(h++[MO.lst ((d.seen.map (·.2)).map PV.int)])[h.length]?=a_ (.lst ((d.seen.map (·.2)).map PV.int)):=aU;change (DN [a_ (dP d)] h).W _;unfold DN;rw[VO,Uc,VP,Rs.bind_ok,Xa,QJ,hc];simp only[Rs.bind_ok,Il,JX gs,OH,Ij];show k _ (H_ _)
theorem UJ(d:Dd)(hS:d.seen.length<=100)(h:PH)(Q:PV->PH->Prop)(k:∀h',S1 h'->Q (tP (kyL d)) h'):(IJ [dP d] h).W Q:=by
 refine eD ?_;unfold Mn;rw[aS];simp[dP0];refine⟨[a_ (dP d),a_ (.str d.nm.1),d_ d.nm.2],by simp[pv],?_⟩;rfl';simp;refine RQ d hS _ _ λh' hx=>?_
 try simp
 show k h' hx
def ent(d:Dd):PV×PV:=(pv d.nm,dP d)
theorem Ks(p:Str×Int):∀es:z_ Dd,(bB (es.map ent) (pv p)).isSome=true↔p∈es.map (·.nm)
 |[]=>by simp[bB]
 |d::es=>by
  rw[yq,yq,yr]
  change(bB ((pv d.nm,dP d)::es.map ent) (pv p)).isSome=true↔_
  unfold bB;by_cases e:d.nm=p
  ·rw[if_pos (by rw[e])];simp[e]
  ·rw[if_neg (λz=>e (zU z)),Ks p es];constructor
   ·show .inr
   ·rintro(z|z)
    ·show(e z.symm).elim
    ·show z
variable{es:z_ Dd}
theorem UK{d:Dd}(hu:∀x∈es,x.nm=d.nm->x=d):lW (es.map ent) (pv d.nm) (dP d)=(if d.nm∈es.map (·.nm) then es else es++[d]).map ent:=by
 unfold lW;let hl:=Ks d.nm es;by_cases e:d.nm∈es.map (·.nm)
 ·rw[if_pos e,if_pos (hl.mpr e),z7];apply y0B;intro x hx
  change(if(ent x).1=pv d.nm then((ent x).1,dP d) else ent x)=ent x
  by_cases z:(ent x).1=pv d.nm
  ·rw[if_pos z];have:=hu x hx (zU z);subst this;rfl
  ·rw[if_neg z]
 ·rw[if_neg e,if_neg (λz=>e (hl.mp z)),y02];rfl
theorem NI(xs:z_ Dd):yJ (xs.map kyL)=true:=by
 cases xs with
 |nil=>rfl
 |cons a r=>rw[yq];unfold yJ;rw[zg];refine⟨rfl,y1.mpr λz hz=>?_⟩;let⟨q,_,rfl⟩:=y6.mp hz;rfl
theorem Kt{β:Type}(f:Dd->β)(hf:∀a b,f a=f b->a.nm=b.nm):∀{xs:z_ Dd},(xs.map (·.nm)).Nodup->(xs.map f).Nodup:=λ{xs} h=>by unfold List.Nodup at*;rw[y0v] at*;show h.imp λcq e=>cq (hf _ _ e)
theorem Mr(a b:Dd)(e:kyL a=kyL b):a.nm=b.nm:=by unfold kyL at e;simp at e;show Prod.ext e.2.1 e.2.2
abbrev BI(os:z_ Dd):Prop:=os.Pairwise (λa b=>fE (kyL b) (kyL a)=false)
theorem IL(U ds:z_ Dd)(hU:∀d∈ds,d∈U)(hlU:U.length<=63)(hw:∀d∈ds,Wf d)(hl:ds.length<=1000)(hu:∀d∈ds,∀e∈ds,d.nm=e.nm->d=e)(n:Nat)(h:PH)(g:h[n]?=a_ (.lst (ds.map dP)))(Q:PV->PH->Prop)
  (k:∀os l h',S1 h'->h.length<=l->h'[l]?=a_ (.lst (os.map dP))->(os.map (·.nm)).Nodup->(∀d,d∈os↔d∈ds)->BI os->Q (.ref l) h'):(tY [.ref n] h).W Q:=by
 refine eD ?_;unfold zS;rw[aS];simp;let x0:S1 (h++[MO.dK []]):=H_ _;let g0:cO (h++[MO.dK []]) h.length=a_ (([]:z_ Dd).map ent):=Nx aU;generalize h++[MO.dK []]=hA at x0 g0;rfl';rw[aS];refine By (n:=n) (xs:=ds.map dP) (h1:=hA) (λq δ h'=>∃es:z_ Dd,S1 h'/\cO h' h.length=a_ (es.map ent)/\(es.map (·.nm)).Nodup/\(∀d,d∈es↔d∈ds.take q)/\es.length<=q/\∃x2,δ=[c_ n,q1b 0,x2]) (by simp) (x0 _ _ g) ⟨[],x0,g0,by simp,by simp,by simp,_,rfl⟩ ?_ ?_ ?_
 ·rintro q δ h' hq ⟨es,x,_⟩;show x _ _ g
 ·rintro q y δ h' hy ⟨es,x,t,nd,mem,le,x2,rfl⟩;rw[yy]at hy;let⟨d,hd,rfl⟩:=zq.mp hy;let iu:q<ds.length:=(xt.mp hd).1;let htk:ds.take (q+1)=ds.take q++[d]:=by rw[List.take_add_one,hd];rfl
  let ay:d∈ds:=zi hd;let fw:∀e∈es,e∈ds:=λe he=>List.mem_of_mem_take ((mem e).mp he);refine⟨_,rfl,?_⟩;let hp:K2 (.ref h.length) (pv d.nm) (dP d) h'=a_ (h'.set h.length (.dD (lW (es.map ent) (pv d.nm) (dP d)))):=Rf t Zl (by rw[yh];omega);rw[UK λe he z=>hu e (fw e he) d ay z]at hp;let hh:∃o,h'[h.length]?=a_ o:=let ⟨o,g,_⟩:=fU t;⟨o,g⟩;let⟨o,ho⟩:=hh;unfold AM;simp[dP0];refine⟨_,hp,AN x,_,AG (eM ho),?_,?_,?_⟩
  ·split
   ·show nd
   ·rename_i z;rw[y02,y1c];refine⟨nd,by simp,λa ha b hb e=>?_⟩;rw[List.map_singleton,y0]at hb;subst hb e;show z (k_ ha)
  ·intro e;rw[htk];split
   ·rename_i z;rw[mem e,zf,y0];constructor
    ·show .inl
    ·rintro(z'|rfl)
     ·show z'
     ·let⟨e',e8,en⟩:=y6.mp (show e.nm∈es.map (·.nm) by simpa using z)
      have:=hu e' (fw e' e8) e ay en;subst this;show(mem e').mp e8
   ·rw[zf,zf,mem e]
  ·split
   ·omega
   ·simp;omega
 ·rintro δ h' ⟨es,x,t,nd,mem,le,x2,rfl⟩;let hle:es.length<=63:=by
   let h1:(es.map (·.nm)).length<=(U.map (·.nm)).length:=y13 nd λp hp=>by let⟨d,hd,rfl⟩:=y6.mp hp;show y6.mpr ⟨d,hU d (List.mem_of_mem_take ((mem d).mp hd)),rfl⟩
   simp at h1;omega
  let⟨o,ho,u6,_⟩:=fU t;rfl';simp[u6,Ux t];let x1:Ext h' (h'++[MO.vw 1 h.length]):=H_ _;let ei:rX (.ref h'.length) (h'++[MO.vw 1 h.length])=a_ (es.map dP):=by rw[Kc aU (sN x1 t),z7];rfl
  generalize h'++[MO.vw 1 h.length]=h2 at x1 ei;let o2:∀d,d∈es↔d∈ds:=λd=>by rw[mem d,yh,y2c]
  refine Nz (key:=kyL) (emb:=dP) (S:=shape [.inl 0,.inr "",.inl 0]) ei ⋯ (NI es) (λ_ _=>rfl) (Kt kyL Mr nd) (λd hd h Q kk=>UJ d (hw d ((o2 d).mp hd)).len h Q kk) λos h3 x3 hp ho=>?_;refine k os h3.length _ ((x.trans x1).trans (x3.trans (H_ _))) (ze x.len (ze x1.len x3.len)) aU ((hp.map _).nodup_iff.mpr nd) (λd=>(hp.mem_iff).trans (o2 d)) ho
variable{E:FE}{body:Ms}
unseal Fl.W Rs.W in
theorem UL{t:Ev->PH->Rs Bool}(I:Nat->Ev->PH->Prop)(step:∀m δ h,I m δ h->(t δ h).W λb h1=>if b=true then(body δ h1).W { nx:=λδ h=>∃m',m'<m/\I m' δ h,ct:=λδ h=>∃m',m'<m/\I m' δ h,rt:=E.rt,bk:=E.nx} else E.nx δ h1):
  ∀(n m:Nat),m<n->∀δ h,I m δ h->(Ii n t body δ h).W E:=by
 intro n
 induction n with
 |zero=>intro m hm;show absurd hm (y1E _)
 |succ n ih=>
  intro m hm δ h hi;let hs:=step m δ h hi;unfold Ii Ha;rw[LW];refine LX hs λb h1 hb=>?_;cases b with
  |false=>simpa using hb
  |true=>
   rw[q0k 0]at hb;dsimp only;cases e:body δ h1 with
   |nx δ2 h2=>rw[e]at hb;let⟨m',h3,h4⟩:=hb;show ih m' ⋯ δ2 h2 h4
   |ct δ2 h2=>rw[e]at hb;let⟨m',h3,h4⟩:=hb;show ih m' ⋯ δ2 h2 h4
   |bk δ2 h2=>rw[e]at hb;show hb
   |rt p h2=>rw[e]at hb;show hb
   |exc p h2=>rw[e]at hb;show hb
   |bad=>rw[e]at hb;show hb
abbrev Nm:=Str×Int
structure Rc where
 kd:Str
 hd:A_ Nm
 st:PV
def obN:A_ Nm->PV
 |none=>.non
 |some p=>pv p
def sR(r:Rc):PV:=.tup [.str r.kd,obN r.hd,r.st]
abbrev Md:=z_ (Nm×Rc)
def fnd:Md->Nm->A_ Rc
 |[],_=>b_
 |x::M,p=>if x.1=p then a_ x.2 else fnd M p
theorem Ku(x:Nm×Rc)(M:Md)(p:Nm):fnd (x::M) p=if x.1=p then a_ x.2 else fnd M p:=rfl
def yK(x:Nm×Rc):PV×PV:=(pv x.1,sR x.2)
def mH(M:Md)(p:Nm)(r:Rc):Md:=if(q0p p).isSome then M.map (λx=>if x.1=p then(x.1,r) else x) else M++[(p,r)]
variable{p:Nm}
theorem RR:(pv p).pl (n+1)=true:=by cases n <;> rfl
variable{r:Rc}
theorem rc0:vIx (sR r) (.int 0) h=.ok (.str r.kd) h:=by unfold sR;simp
theorem rc1:vIx (sR r) (.int 1) h=.ok (obN r.hd) h:=by unfold sR;simp
theorem F3(p:Nm):∀M:Md,bB (M.map yK) (pv p)=(q0p p).map sR
 |[]=>rfl
 |x::M=>by
  rw[yq]
  change bB ((pv x.1,sR x.2)::M.map yK) (pv p)=_
  unfold bB fnd;by_cases e:x.1=p
  ·rw[if_pos (by rw[e]),if_pos e];rfl
  ·rw[if_neg (λz=>e (zU z)),if_neg e,F3 p M]
theorem VU(M:Md)(p:Nm)(r:Rc):lW (M.map yK) (pv p) (sR r)=(mH M p r).map yK:=by
 unfold lW mH;rw[F3];cases e:q0p p with
 |none=>simp[yK]
 |some z=>
  simp only[y2G,y2E,if_true,z7];apply y0B;intro x _
  change(if pv x.1=pv p then(pv x.1,sR r) else yK x)=yK (if x.1=p then(x.1,r) else x)
  by_cases e:x.1=p
  ·rw[if_pos (show pv x.1=pv p by rw[e]),if_pos e];rfl
  ·rw[if_neg (show ¬ pv x.1=pv p from λz=>e (zU z)),if_neg e]
theorem UM(M:Md)(p:Nm)(r:Rc)(q:Nm):fnd (M.map λx=>if x.1=p then(x.1,r) else x) q=if q=p then(q0p p).map (λ_=>r) else q0p q:=by
 induction M with
 |nil=>simp[fnd]
 |cons x M ih=>
  rw[yq];unfold fnd;rw[ih];by_cases h1:x.1=p
  ·rw[if_pos h1];by_cases h2:q=p
   ·rw[if_pos (show x.1=q by rw[h1,h2]),if_pos h2,if_pos h1];rfl
   ·let h3:¬ x.1=q:=λz=>h2 (z▸h1);rw[if_neg (show ¬ x.1=q from h3),if_neg h2,if_neg h2,if_neg h3]
  ·rw[if_neg h1];by_cases h2:q=p
   ·let h3:¬ x.1=q:=λz=>h1 (z.trans h2);rw[if_neg h3,if_pos h2,if_pos h2,if_neg h1]
   ·rw[if_neg h2,if_neg h2]
theorem UN(M N:Md)(q:Nm):fnd (M++N) q=(q0p q).or (fnd N q):=by
 induction M with
 |nil=>simp[fnd]
 |cons x M ih=>
  rw[List.cons_append,Ku,Ku];by_cases h:x.1=q
  ·rw[if_pos h,if_pos h];rfl
  ·rw[if_neg h,if_neg h,ih]
theorem mI(M:Md)(p:Nm)(r:Rc)(q:Nm):fnd (mH M p r) q=if q=p then a_ r else fnd M q:=by
 unfold mH;cases e:q0p p with
 |some z=>simp only[y2E,if_true];rw[UM,e];rfl
 |none=>
  simp only[Option.isSome_none,zb,if_false];rw[UN];by_cases h:q=p
  ·rw[if_pos h,h,e];simp[fnd]
  ·rw[if_neg h];have:fnd [(p,r)] q=b_:=by unfold fnd;rw[if_neg (λz=>h z.symm)];rfl
   rw[this];cases fnd M q <;> rfl
variable{M:Md}
theorem NJ(h:q0p p=a_ r):(p,r)∈M:=by
 induction M with
 |nil=>cases h
 |cons x M ih=>
  unfold fnd at h;by_cases e:x.1=p
  ·rw[if_pos e]at h;cases h
   rw[<-e];show ye
  ·rw[if_neg e]at h;show yd _ (ih h)
theorem IM:(q0p p).isSome=true↔p∈M.map (·.1):=by
 induction M with
 |nil=>simp[fnd]
 |cons x M ih=>
  unfold fnd;by_cases e:x.1=p
  ·rw[if_pos e];simp[e]
  ·rw[if_neg e,ih,yq,yr];show⟨.inr,λz=>z.resolve_left λq=>e q.symm⟩
theorem Pa(M:Md)(p:Nm)(r:Rc):(mH M p r).map (·.1)=if p∈M.map (·.1) then M.map (·.1) else M.map (·.1)++[p]:=by
 unfold mH;by_cases e:(q0p p).isSome=true
 ·rw[if_pos e,if_pos (IM.mp e),z7];apply y0B;intro x _
  change(if x.1=p then(x.1,r) else x).1=x.1
  split <;> rfl
 ·rw[if_neg e,if_neg (λz=>e (IM.mpr z)),y02];rfl
theorem RS(M:Md)(p:Nm)(r:Rc):(mH M p r).length<=M.length+1:=by
 unfold mH;split
 ·rw[yh];omega
 ·simp
def Up(M:Md)(f:Nm->Nat):Prop:=∀p r q,q0p p=a_ r->r.hd=a_ q->(q0p q).isSome=true->f q<f p
def zV(M:Md):Prop:=∃f,Up M f
def mJ(M:Md)(p:Nm):Nat->A_ Nm->z_ Nm->z_ Nm
 |0,_,_=>[]
 |_+1,b_,_=>[]
 |n+1,a_ q,way=>match q0p q with
  |none=>[]
  |some r=>if q=p then way++[q] else mJ M p n r.hd (way++[q])
def AO(M:Md)(p:Nm):Nat->A_ Nm->Prop
 |0,_=>False
 |_+1,b_=>False
 |n+1,a_ q=>match q0p q with
  |none=>False
  |some r=>q=p\/AO M p n r.hd
theorem nC{q:Nm}:AO M p (n+1) (a_ q)=(match q0p q with|none=>False|some r=>q=p\/AO M p n r.hd):=rfl
theorem Kv{M:Md}{p:Nm}:∀{n:Nat}{u:A_ Nm}{way:z_ Nm},mJ M p n u way=[] ↔ ¬ AO M p n u
 |0,u,way=>by simp[mJ,AO]
 |n+1,b_,way=>by simp[mJ,AO]
 |n+1,a_ q,way=>by
  unfold mJ AO;cases e:q0p q with
  |none=>simp
  |some r=>
   dsimp only;by_cases h:q=p
   ·rw[if_pos h];simp[h]
   ·rw[if_neg h,Kv];simp[h]
def On(M:Md)(p:Nm)(u:A_ Nm):Prop:=∃n,AO M p n u
theorem IP{q:Nm}(e:q0p q=a_ r):On M p (a_ q)↔q=p\/On M p r.hd:=by
 constructor
 ·rintro⟨n,hn⟩;cases n with
  |zero=>exact hn.elim
  |succ n=>rw[nC,e]at hn;show hn.imp id λz=>⟨n,z⟩
 ·rintro(z|⟨n,hn⟩)
  ·show⟨1,by rw[nC,e];show .inl z⟩
  ·show⟨n+1,by rw[nC,e];show .inr hn⟩
theorem Xy{q:Nm}(e:q0p q=b_):¬ On M p (a_ q):=λ⟨n,hn⟩=>by
 cases n with
 |zero=>exact hn
 |succ n=>rw[nC,e]at hn;show hn
theorem UO:¬ On M p b_:=λ⟨n,hn⟩=>by cases n <;> exact hn
def vr(M:Md)(f:Nm->Nat):A_ Nm->Nat
 |none=>0
 |some q=>if(q0p q).isSome=true then f q+1 else 0
variable{f:Nm->Nat}
theorem IQ{q:Nm}:vr M f (a_ q)=if(q0p q).isSome=true then f q+1 else 0:=rfl
theorem HA(hf:Up M f){q:Nm}(e:q0p q=a_ r):vr M f r.hd<vr M f (a_ q):=by
 let h1:vr M f (a_ q)=f q+1:=by rw[IQ,e];rfl
 rw[h1];cases e2:r.hd with
 |none=>exact Nat.succ_pos _
 |some z=>
  rw[IQ];by_cases e3:(q0p z).isSome=true
  ·rw[if_pos e3];have:=hf q r z e e2 e3;omega
  ·rw[if_neg e3];show Nat.succ_pos _
theorem HB{M:Md}{p:Nm}{f:Nm->Nat}(hf:Up M f):∀{n:Nat}{u:A_ Nm},vr M f u<n->(On M p u↔AO M p n u)
 |0,u,h=>absurd h (y1E _)
 |n+1,b_,_=>iff_of_false UO id
 |n+1,a_ q,h=>by
  cases e:q0p q with
  |none=>exact iff_of_false (Xy e) (by rw[nC,e];show id)
  |some r=>rw[IP e,nC,e];show or_congr Iff.rfl (HB hf (by have:=HA hf e;omega))
theorem HC{M:Md}{p:Nm}{f:Nm->Nat}(hf:Up M f):∀{n m:Nat}{u:A_ Nm}{way:z_ Nm},vr M f u<n->vr M f u<m->mJ M p n u way=mJ M p m u way
 |0,m,u,_,h,_=>absurd h (y1E _)
 |_,0,u,_,_,h=>absurd h (y1E _)
 |n+1,m+1,b_,_,_,_=>rfl
 |n+1,m+1,a_ q,way,h1,h2=>by
  unfold mJ;cases e:q0p q with
  |none=>rfl
  |some r=>
   dsimp only;have:=HA hf e;split
   ·rfl
   ·show HC hf ⋯ ⋯
def wy(M:Md):Nat->A_ Nm->z_ Nm
 |0,_=>[]
 |_+1,b_=>[]
 |n+1,a_ q=>match q0p q with
  |none=>[]
  |some r=>q::wy M n r.hd
theorem Kw{M:Md}{f:Nm->Nat}(hf:Up M f):∀{n:Nat}{u:A_ Nm},vr M f u<n->(wy M n u).Nodup/\(∀x∈wy M n u,x∈M.map (·.1)/\vr M f (a_ x)<=vr M f u)
 |0,u,h=>absurd h (y1E _)
 |n+1,b_,_=>⟨List.nodup_nil,λx hx=>nomatch hx⟩
 |n+1,a_ q,h=>by
  unfold wy;cases e:q0p q with
  |none=>exact⟨List.nodup_nil,λx hx=>nomatch hx⟩
  |some r=>
   dsimp only;let lt:=HA hf e;let⟨h1,h2⟩:=Kw hf (n:=n) (u:=r.hd) ⋯;refine⟨y1g.mpr ⟨λz=>?_,h1⟩,λx hx=>?_⟩
   ·have:=(h2 q z).2;omega
   ·rcases yr.mp hx with rfl|hx
    ·show⟨IM.mp (by rw[e];rfl),yg _⟩
    ·show⟨(h2 x hx).1,by have:=(h2 x hx).2;omega⟩
theorem NK{M:Md}{f:Nm->Nat}(hf:Up M f):∀{n m:Nat}{u:A_ Nm},vr M f u<n->vr M f u<m->wy M n u=wy M m u
 |0,m,u,h,_=>absurd h (y1E _)
 |_,0,u,_,h=>absurd h (y1E _)
 |n+1,m+1,b_,_,_=>rfl
 |n+1,m+1,a_ q,h1,h2=>by
  unfold wy;cases e:q0p q with
  |none=>rfl
  |some r=>dsimp only;have:=HA hf e;rw[NK hf (n:=n) (m:=m) ⋯ ⋯]
theorem small(hM:zV M):∃g,Up M g/\∀q,g q<=M.length:=by
 let⟨f,hf⟩:=hM;refine⟨λq=>(wy M (vr M f (a_ q)+1) (a_ q)).length,λp r q h1 h2 h3=>?_,λq=>?_⟩
 ·let e1:wy M (vr M f (a_ p)+1) (a_ p)=p::wy M (vr M f (a_ p)) r.hd:=by
   change(match q0p p with|none=>[]|some r=>p::wy M (vr M f (a_ p)) r.hd)=_
   rw[h1]
  let lt:=HA hf h1
  change(wy M (vr M f (a_ q)+1) (a_ q)).length<(wy M (vr M f (a_ p)+1) (a_ p)).length
  rw[e1,h2,zt,NK hf (u:=a_ q) (n:=vr M f (a_ p)) (m:=vr M f (a_ q)+1) (by rw[<-h2];show lt) ⋯];omega
 ·let⟨h1,h2⟩:=Kw hf (n:=vr M f (a_ q)+1) (u:=a_ q) ⋯;have:=y13 h1 (l₂:=M.map (·.1)) λx hx=>(h2 x hx).1;simpa using this
variable{r':Rc}
theorem Kx{q:Nm}(hf:Up M f)(hr:q0p p=a_ r)(hq:r'.hd=a_ q)(je:¬ On M p (a_ q)):zV (mH M p r'):=by
 classical
 refine⟨λx=>if On M p (a_ x) then f x+f q+1 else f x,?_⟩;intro x rx z h1 h2 h3;rw[mI]at h1 h3;by_cases ex:x=p
 ·rw[if_pos ex]at h1;cases h1
  rw[hq]at h2;cases h2
  subst ex;let on:On M x (a_ x):=(IP hr).mpr (.inl rfl)
  change(if On M x (a_ q) then f q+f q+1 else f q)<if On M x (a_ x) then f x+f q+1 else f x
  rw[if_neg je,if_pos on];omega
 ·rw[if_neg ex]at h1;let hz:(q0p z).isSome=true:=by
   by_cases ez:z=p
   ·rw[ez,hr];rfl
   ·rw[if_neg ez]at h3;show h3
  let lt:=hf x rx z h1 h2 hz;let st:=IP (p:=p) h1;rw[h2]at st
  change(if On M p (a_ z) then f z+f q+1 else f z)<if On M p (a_ x) then f x+f q+1 else f x
  by_cases oz:On M p (a_ z)
  ·rw[if_pos oz,if_pos (st.mpr (.inr oz))];omega
  ·let ox:¬ On M p (a_ x):=λw=>(st.mp w).elim ex oz;rw[if_neg oz,if_neg ox];show lt
theorem Ky(hf:Up M f)(hr:q0p p=a_ r)(hq:r'.hd=b_):Up (mH M p r') f:=by
 intro x rx z h1 h2 h3;rw[mI]at h1 h3;by_cases ex:x=p
 ·rw[if_pos ex]at h1;cases h1
  rw[hq]at h2;cases h2
 ·rw[if_neg ex]at h1;refine hf x rx z h1 h2 ?_;by_cases ez:z=p
  ·rw[ez,hr];rfl
  ·rw[if_neg ez]at h3;show h3
theorem Kz(hf:Up M f)(hr:q0p p=b_)(hq:r.hd≠a_ p)(je:∀x rx,q0p x=a_ rx->rx.hd≠a_ p):zV (mH M p r):=by
 refine⟨λx=>if x=p then(match r.hd with|some q=>f q+1|none=>0) else f x,?_⟩
 intro x rx z h1 h2 h3;rw[mI]at h1 h3;by_cases ex:x=p
 ·rw[if_pos ex]at h1;cases h1
  let ez:z≠p:=λw=>hq (w▸h2)
  change(if z=p then _ else f z)<if x=p then _ else f x
  rw[if_neg ez,if_pos ex,h2];show Nat.lt_succ_self _
 ·rw[if_neg ex]at h1;let ez:z≠p:=λw=>je x rx h1 (w▸h2);rw[if_neg ez]at h3
  change(if z=p then _ else f z)<if x=p then _ else f x
  rw[if_neg ez,if_neg ex];show hf x rx z h1 h2 h3
structure bK(h:PH)(lt lm lf:Nat)(M:Md)(L:z_ Nm):Prop where
 ins:h[lt]?=some (.ins "Tree" [("made",.ref lm),("failed",.ref lf)])
 made:cO h lm=some (M.map yK)
 fail:h[lf]?=some (.lst (L.map pv))
variable{L:z_ Nm}{h':PH}{lf lm:Nat}
theorem bK.ext{lt:Nat}(t:T_ 0)(x:S1 h'):q1j M L:=⟨x _ _ t.ins,sN x t.made,x _ _ t.fail⟩
theorem bK.fm{lt:Nat}(t:T_ 0):cW "made" (.ref lt) h=.ok (.ref lm) h:=iV t.ins rfl
theorem bK.ff{lt:Nat}(t:T_ 0):cW "failed" (.ref lt) h=.ok (.ref lf) h:=iV t.ins rfl
theorem bK.dict{lt:Nat}(t:T_ 0):lB (.ref lm) h=true:=let ⟨_,_,u6,_⟩:=fU t.made;u6
theorem bK.has{lt:Nat}(t:T_ 0)(p:Nm):AD (pv p) (.ref lm) h=.ok (.bl (q0p p).isSome) h:=by have:AD (pv p) (.ref lm) h=.ok (.bl (bB (M.map yK) (pv p)).isSome) h:=Rg t.made rfl;rw[this,F3,y2q]
theorem bK.hasNot{lt:Nat}(t:T_ 0)(p:Nm):kK (pv p) (.ref lm) h=.ok (.bl (!(q0p p).isSome)) h:=by have:kK (pv p) (.ref lm) h=.ok (.bl (!(bB (M.map yK) (pv p)).isSome)) h:=OP t.made rfl;rw[this,F3,y2q]
variable{kvs:z_ (PV×PV)}{xs:z_ PV}
theorem RT{p:PV}(e:cO h n=a_ kvs)(hk:(PV.tup xs).ky 6=true)(hl:q0H (.tup xs)=a_ p):vAt (.ref n) (.tup xs) h=.ok p h:=by
 let k1:(PV.tup xs).isKt=true:=hk;have:oJ (.tup xs) (.ref n) h=a_ (q0H (.tup xs)):=by simp only[oJ,k1,if_true,e,y2G]
 unfold vAt;rw[this,hl]
theorem bK.at'{lt:Nat}(t:T_ 0)(e:q0p p=a_ r):vAt (.ref lm) (pv p) h=.ok (sR r) h:=RT t.made rfl (by change bB _ (pv p)=_;rw[F3,e];rfl)
theorem UP(M:Md):(M.map yK).all (λq=>q.1.isKt)=true:=by rw[y1];intro q hq;let⟨x,_,rfl⟩:=y6.mp hq;rfl
theorem bK.hasN{lt:Nat}(t:T_ 0)(u:A_ Nm):mG (obN u) (.ref lm) h=.ok (.bl (u.bind (fnd M)).isSome) h:=by
 cases u with
 |none=>exact OW t.made (UP M)
 |some p=>show mG (pv p) _ _=_;unfold pv;rw[Hr];show t.has p
abbrev root:Nm:=("",0)
def wD(M:Md)(p:Nm):PV:=if p=root then .str "map" else match q0p p with
 |some r=>.str r.kd
 |none=>.non
theorem UQ:vEq (pv p) (.tup [.str "",.int 0]) h=.ok (.bl (decide (p=root))) h:=by
 rw[zH (RR (n:=39)) rfl];congr 2;rw[decide_eq_decide];show⟨λe=>zU (q:=root) e,λe=>by rw[e];rfl⟩
theorem DS{lt:Nat}(t:T_ 0)(p:Nm):dF [.ref lt,pv p] h=.ok (wD M p) h:=by
 let w:(dF [.ref lt,pv p] h).W λq h'=>q=wD M p/\h'=h:=by
  refine eD ?_;unfold qJ wD;rw[aS];simp[UQ];by_cases e:p=root
  ·simp[e]
  ·simp[e];rfl';let hh:mG (pv p) (.ref lm) h=.ok (.bl (q0p p).isSome) h:=t.hasN (a_ p);cases e2:q0p p with
   |none=>rw[e2]at hh;simp[t.fm,hh]
   |some r=>rw[e2]at hh;simp[t.fm,hh,t.at' e2,rc0]
 let⟨q,h',e,rfl,rfl⟩:=pH w;show e
inductive Spot where
 |key (z:Str)
 |place (u:z_ PV) (side:Int)
def spP:Spot->PV
 |.key z=>.str z
 |.place u s=>.tup [.tup u,.int s]
def mK(sp:Spot)(p:Nm):PV:=match sp with
 |.key z=>.str z
 |.place u s=>.tup (u++[.tup [.int s,.str p.1,.int p.2,.int 0]])
def isKey:Spot->Bool
 |.key _=>true
 |_=>false
def uX(M:Md)(p:Nm)(sp:Spot):Bool:=decide (wD M p=if isKey sp then .str "map" else .str "row")
theorem F4(M:Md)(p:Nm):(wD M p).pl 40=true:=by
 unfold wD;split
 ·rfl
 ·split <;> rfl
theorem AQ{lt:Nat}(t:T_ 0)(p:Nm)(sp:Spot):eO [.ref lt,pv p,spP sp] h=.ok (.bl (uX M p sp)) h:=by
 let w:(eO [.ref lt,pv p,spP sp] h).W λq h'=>q=.bl (uX M p sp)/\h'=h:=by
  refine eD ?_;unfold tW uX;let m1:=λy=>bZ (mm:="kind_of") (n:=1) (tb:=jE) (ms:=aB (mV 1) aL) (δ:=[c_ lt,a_ (pv p),a_ y]) (h:=h) (h1:=h) (mo:=mV 0) (k:=lt) (f:=dF) (by simp) t.ins (by simp[jE]) rfl;cases sp with
  |key z=>simp[m1,DS t,spP,known,uU,isKey];rw[zH (F4 M p) rfl];simp
  |place u s=>simp[m1,DS t,spP,known,uU,isKey];rw[zH (F4 M p) rfl];simp
 let⟨q,h',e,rfl,rfl⟩:=pH w;show e
theorem RU(u:z_ PV)(hu:u.length<=1000)(s:Int)(p:Nm)(h:PH):qK [.tup [.tup u,.int s],pv p] h=.ok (.tup (u++[.tup [.int s,.str p.1,.int p.2,.int 0]])) h:=by
 let w:(qK [.tup [.tup u,.int s],pv p] h).W λq h'=>q=.tup (u++[.tup [.int s,.str p.1,.int p.2,.int 0]])/\h'=h:=by refine eD ?_;unfold zP;rw[aS];simp;rfl';rw[aS];simp;refine⟨[a_ (.tup [.tup u,.int s]),a_ (pv p),a_ (.tup u),d_ s,a_ (.str p.1),d_ p.2],by simp[pv],?_⟩;rfl';simp;rw[Bx (by simp;omega)];simp
 let⟨q,h',e,rfl,rfl⟩:=pH w;show e
def Mt:Spot->Prop
 |.key _=>True
 |.place u _=>u.length<=1000
theorem KA(sp:Spot)(hs:Mt sp)(p:Nm)(h:PH):kN [spP sp,pv p] h=.ok (mK sp p) h:=by
 let w:(kN [spP sp,pv p] h).W λq h'=>q=mK sp p/\h'=h:=by
  refine eD ?_;unfold zQ;cases sp with
  |key z=>simp[spP,known,uU,mK]
  |place u s=>simp[spP,known,uU,mK,RU u hs s p]
 let⟨q,h',e,rfl,rfl⟩:=pH w;show e
theorem bK.dm{lt:Nat}(t:T_ 0):lt≠lm/\lf≠lm/\lt≠lf:=by
 let h1:=t.ins;let h2:=t.made;let h3:=t.fail;refine⟨λe=>?_,λe=>?_,λe=>?_⟩
 ·subst e;simp[cO,h1]at h2
 ·subst e;simp[cO,h3]at h2
 ·subst e;rw[h1]at h3;cases h3
variable{M':Md}
theorem bK.put{lt:Nat}(t:T_ 0):bK (h.set lm (.dD (M'.map yK))) lt lm lf M' L:=by let⟨d1,d2,d3⟩:=t.dm;let⟨o,ho,_,_⟩:=fU t.made;show⟨bQ t.ins (λz=>d1 z.symm),AG (eM ho),bQ t.fail (λz=>d2 z.symm)⟩
variable{L':z_ Nm}
theorem bK.lose{lt:Nat}(t:T_ 0):bK (h.set lf (.lst (L'.map pv))) lt lm lf M L':=by let⟨d1,d2,d3⟩:=t.dm;let⟨o,ho,_,hh⟩:=fU t.made;show⟨bQ t.ins (λz=>d3 z.symm),hh _ (bQ ho d2),eM t.fail⟩
def Kept(lm lf:Nat)(h h':PH):Prop:=∀(n:Nat) o,n≠lm->n≠lf->h[n]?=a_ o->h'[n]?=a_ o
theorem Kept.of(x:S1 h'):q1h h':=λn o _ _ e=>x n o e
variable{h2:PH}
theorem Kept.trans(a:q1h h')(b:Kept lm lf h' h2):q1h h2:=λn o p q e=>b n o p q (a n o p q e)
theorem Mu:q1h (h.set lm o):=λn _ p _ e=>bQ e (λz=>p z.symm)
theorem Xz:q1h (h.set lf o):=λn _ _ q e=>bQ e (λz=>q z.symm)
def WR(M:Md)(g:Nm->Nat)(L:z_ Nm)(lt lm lf:Nat)(h:PH)(p q:Nm)(m:Nat)(δ:Ev)(h':PH):Prop:=∃u way,m=vr M g u/\S1 h'/\q1j M L/\h'[h.length]?=a_ (.lst (way.map pv))/\way.length+m<=M.length+1/\
 mJ M p (m+1) u way=mJ M p (vr M g (a_ q)+1) (a_ q) []/\δ=[c_ lt,a_ (pv p),a_ (pv q),q1b 0,a_ (obN u)]
variable{g:Nm->Nat}
theorem Zm(hb:∀q,g q<=M.length)(u:A_ Nm):vr M g u<=M.length+1:=by
 cases u with
 |none=>exact y9 _
 |some q=>rw[IQ];split <;> have:=hb q <;> omega
theorem UR{lt:Nat}(t:T_ 0)(hg:Up M g)(hb:∀q,g q<=M.length)(hl:M.length<=1000)(p q:Nm)(Q:PV->PH->Prop)(k:∀l h',S1 h'->h.length<=l->h'[l]?=a_ (.lst ((mJ M p (vr M g (a_ q)+1) (a_ q) []).map pv))->Q (.ref l) h'):(lH [.ref lt,pv p,pv q] h).W Q:=by
 refine eD ?_;unfold vT;rw[aS];simp;let x0:S1 (h++[MO.lst []]):=H_ _;let g0:(h++[MO.lst []])[h.length]?=a_ (.lst (([]:z_ Nm).map pv)):=aU;generalize h++[MO.lst []]=hA at x0 g0;rfl';rw[aS];simp;rfl';rw[aS];let hv:=Zm hb (a_ q);refine UL (WR M g L lt lm lf h p q) ?_ 1000000 (vr M g (a_ q)) ⋯ _ _ ⟨a_ q,[],rfl,x0,t.ext x0,g0,by simp;omega,rfl,rfl⟩;rintro m δ h' ⟨u,way,rfl,x,t',gw,lw,er,rfl⟩;cases hu:u.bind (fnd M) with
 |none=>
  let hn:=t'.hasN u;rw[hu]at hn;simp[t'.fm,hn];rfl';simp;let e0:mJ M p (vr M g (a_ q)+1) (a_ q) []=[]:=by
   rw[<-er];cases u with
   |none=>rfl
   |some z=>have hz:q0p z=b_:=hu;unfold mJ;rw[hz]
  have:=k h'.length (h'++[MO.lst []]) (x.trans (H_ _)) x.len (by rw[e0];show aU);show this
 |some r=>
  let hn:=t'.hasN u;rw[hu]at hn;simp[t'.fm,hn];cases u with
  |none=>cases hu
  |some z=>
   let hz:q0p z=a_ r:=hu;let vz:=HA hg hz;unfold yW;rw[aS];let ap:=qC (p:=pv z) gw (by rw[yh];omega);rw[show way.map pv++[pv z]=(way++[z]).map pv by simp]at ap;let vf:onL fT (.ref h.length) [obN (a_ z)] h'=.ok .non (h'.set h.length (.lst ((way++[z]).map pv))):=ap;let⟨d1,d2,d3⟩:=t'.dm;let hlen:lt<h.length/\lm<h.length/\lf<h.length:=by let⟨o,ho,_,_⟩:=fU t.made;show⟨(xt.mp t.ins).1,(xt.mp ho).1,(xt.mp t.fail).1⟩
   let x1:S1 (h'.set h.length (.lst ((way++[z]).map pv))):=AN x;let t1:bK (h'.set h.length (.lst ((way++[z]).map pv))) lt lm lf M L:=by let⟨o,ho,_,hh⟩:=fU t'.made;show⟨bQ t'.ins ⋯,hh _ (bQ ho ⋯),bQ t'.fail ⋯⟩
   let g1:=eM (o':=MO.lst ((way++[z]).map pv)) gw;generalize h'.set h.length (.lst ((way++[z]).map pv))=h2 at x1 t1 g1 vf;simp[AB gw,vf];let qh:(if z=p then way++[z] else mJ M p (vr M g (a_ z)) r.hd (way++[z]))=mJ M p (vr M g (a_ q)+1) (a_ q) []:=by
    rw[<-er]
    change _=(match q0p z with|none=>[]|some r=>if z=p then way++[z] else mJ M p (vr M g (a_ z)) r.hd (way++[z]))
    rw[hz]
   rfl';rw[aS];let ev:vEq (obN (a_ z)) (pv p) h2=.ok (.bl (decide (z=p))) h2:=by
    change vEq (pv z) (pv p) h2=_
    rw[zH (RR (n:=39)) (RR (n:=39))];congr 2;rw[decide_eq_decide];show⟨zU,λe=>by rw[e]⟩
   simp[ev];by_cases ez:z=p
   ·rw[if_pos ez];rw[if_pos ez]at qh;show k h.length h2 x1 (yg _) (by rw[<-qh];show g1)
   ·rw[if_neg ez];rw[if_neg ez]at qh;rfl';let ea:vAt (.ref lm) (obN (a_ z)) h2=.ok (sR r) h2:=t1.at' hz;simp[t1.fm,ea,rc1];refine⟨vr M g r.hd,vz,r.hd,way++[z],rfl,x1,t1,g1,by simp;omega,?_,rfl⟩;rw[<-qh];show HC hg ⋯ vz
theorem RW{lt:Nat}(t:T_ 0)(hl:M.length<=1000)(e:q0p p=a_ r)(u:A_ Nm)(st:PV):
  fJ [.ref lt,pv p,obN u,st] h=.ok .non (h.set lm (.dD ((mH M p ⟨r.kd,u,st⟩).map yK))):=by
 let w:(fJ [.ref lt,pv p,obN u,st] h).W λq h'=>q=.non/\h'=h.set lm (.dD ((mH M p ⟨r.kd,u,st⟩).map yK)):=by refine eD ?_;unfold zR;let hp:sO (.ref lm) (pv p) (sR ⟨r.kd,u,st⟩) h=a_ (h.set lm (.dD (lW (M.map yK) (pv p) (sR ⟨r.kd,u,st⟩)))):=DH t.made rfl (by rw[yh];omega);rw[VU]at hp;let fg:sO (.ref lm) (pv p) (.tup [.str r.kd,obN u,st]) h=_:=hp;simp[t.fm,t.at' e,rc0,fg]
 let⟨q,h',e,rfl,rfl⟩:=pH w;show e
inductive Act where
 |make (kd:Str) (ho:Nm) (sp:Spot)
 |move (th ho:Nm) (sp:Spot)
 |drop (th:Nm)
def jT:Act->z_ PV
 |.make kd ho sp=>[.str "make",.str kd,pv ho,spP sp]
 |.move th ho sp=>[.str "move",pv th,pv ho,spP sp]
 |.drop th=>[.str "drop",pv th]
def RX:Act->Prop
 |.make _ _ sp=>Mt sp
 |.move _ _ sp=>Mt sp
 |.drop _=>True
open Classical in
noncomputable def heard(M:Md)(L:z_ Nm)(nm:Nm):Act->Md×z_ Nm×Str
 |.make kd ho sp=>if uX M ho sp=true then(mH M nm ⟨kd,a_ ho,mK sp nm⟩,L,"done") else(M,L,"idle")
 |.move th ho sp=>match q0p th with
  |none=>(M,L,"idle")
  |some r=>if uX M ho sp=true then(if On M th (a_ ho) then(M,L++[nm],"lost") else(mH M th ⟨r.kd,a_ ho,mK sp nm⟩,L,"done")) else(M,L,"idle")
 |.drop th=>match q0p th with
  |none=>(M,L,"idle")
  |some r=>(mH M th ⟨r.kd,b_,.non⟩,L,"done")
variable{ho nm:Nm}{kd:Str}{sp:Spot}
theorem AR:q0n (.make kd ho sp)=if uX M ho sp=true then(mH M nm ⟨kd,a_ ho,mK sp nm⟩,L,("done" : Str)) else(M,L,("idle" : Str)):=rfl
open Classical in
theorem AS{M:Md}{L:z_ Nm}{nm th ho:Nm}{sp:Spot}{r:Rc}(e:q0p th=a_ r):q0n (.move th ho sp)=if uX M ho sp=true then(if On M th (a_ ho) then(M,L++[nm],("lost" : Str)) else(mH M th ⟨r.kd,a_ ho,mK sp nm⟩,L,("done" : Str))) else(M,L,("idle" : Str)):=by simp only[heard,e]
variable{th:Nm}
theorem xZ(e:q0p th=b_):q0n (.move th ho sp)=(M,L,("idle" : Str)):=by simp only[heard,e]
theorem AU(e:q0p th=a_ r):q0n (.drop th)=(mH M th ⟨r.kd,b_,.non⟩,L,("done" : Str)):=by simp only[heard,e]
theorem yA(e:q0p th=b_):q0n (.drop th)=(M,L,("idle" : Str)):=by simp only[heard,e]
theorem US{lt:Nat}(t:T_ 0)(hl:M.length<=1000)(nm:Nm)(kd:Str)(ho:Nm)(sp:Spot)(hs:Mt sp)(Q:PV->PH->Prop)(k:∀h',q1j (q0n (.make kd ho sp)).1 (q0n (.make kd ho sp)).2.1->q1h h'->Q (.str (q0n (.make kd ho sp)).2.2) h'):(eZ [.ref lt,pv nm,.tup (jT (.make kd ho sp))] h).W Q:=by
 refine eD ?_;unfold mU;rw[AR]at k;rw[aS];simp only[jT];simp;rfl';rw[aS];let m1:=bZ (mm:="takes") (n:=2) (tb:=oB) (ms:=aB (mV 5) (aB (mV 6) aL)) (δ:=[c_ lt,a_ (pv nm),a_ (.tup [.str "make",.str kd,pv ho,spP sp]),a_ (.str "make"),a_ (.str kd),a_ (pv ho),a_ (spP sp)]) (h:=h) (h1:=h) (mo:=mV 0) (k:=lt) (f:=eO) (by simp) t.ins (by simp[oB]) rfl;cases ef:uX M ho sp with
 |false=>simp[m1,AQ t,ef];rw[ef,if_neg yl]at k;show k h t (Kept.of (Ext.refl _))
 |true=>simp[m1,AQ t,ef];rw[ef,q0k 0]at k;rfl';rw[aS];let hp:sO (.ref lm) (pv nm) (sR ⟨kd,a_ ho,mK sp nm⟩) h=a_ (h.set lm (.dD (lW (M.map yK) (pv nm) (sR ⟨kd,a_ ho,mK sp nm⟩)))):=DH t.made rfl (by rw[yh];omega);rw[VU]at hp;let fg:sO (.ref lm) (pv nm) (.tup [.str kd,pv ho,mK sp nm]) h=_:=hp;simp[KA sp hs nm,t.fm,fg];rfl';simp;show k _ t.put Mu
theorem UT{lt:Nat}(t:T_ 0)(hM:zV M)(hl:M.length<=1000)(hL:L.length<=1000)(nm:Nm)(th ho:Nm)(sp:Spot)(hs:Mt sp)(hr:q0p th=a_ r)(Q:PV->PH->Prop)(k:∀h',q1j (q0n (.move th ho sp)).1 (q0n (.move th ho sp)).2.1->q1h h'->Q (.str (q0n (.move th ho sp)).2.2) h'):(fB [.ref lt,pv nm,.tup (jT (.move th ho sp))] h).W Q:=by
 refine eD ?_;unfold mW;rw[AS hr]at k;rw[aS];simp only[jT];simp;rfl';rw[aS];let dl:([c_ lt,a_ (pv nm),a_ (.tup [.str "move",pv th,pv ho,spP sp]),a_ (.str "move"),a_ (pv th),a_ (pv ho),a_ (spP sp)]:Ev)=[c_ lt,a_ (pv nm),a_ (.tup [.str "move",pv th,pv ho,spP sp]),a_ (.str "move"),a_ (pv th),a_ (pv ho),a_ (spP sp)]:=rfl;let m1:=bZ (mm:="takes") (n:=2) (tb:=oB) (ms:=aB (mV 5) (aB (mV 6) aL)) (δ:=[c_ lt,a_ (pv nm),a_ (.tup [.str "move",pv th,pv ho,spP sp]),a_ (.str "move"),a_ (pv th),a_ (pv ho),a_ (spP sp)]) (h:=h) (h1:=h) (mo:=mV 0) (k:=lt) (f:=eO) (by simp) t.ins (by simp[oB]) rfl;cases ef:uX M ho sp with
 |false=>simp[m1,AQ t,ef];rw[ef,if_neg yl]at k;show k h t (Kept.of (Ext.refl _))
 |true=>
  simp[m1,AQ t,ef];rw[ef,q0k 0]at k;let⟨g,hg,hb⟩:=small hM;rfl';rw[aS];let m2:=bZ (mm:="ring") (n:=2) (tb:=DL) (ms:=aB (mV 4) (aB (mV 5) aL)) (δ:=[c_ lt,a_ (pv nm),a_ (.tup [.str "move",pv th,pv ho,spP sp]),a_ (.str "move"),a_ (pv th),a_ (pv ho),a_ (spP sp)]) (h:=h) (h1:=h) (mo:=mV 0) (k:=lt) (f:=lH) (by simp) t.ins (by simp[DL]) rfl;let⟨pr,h2,e2,l,rfl,x2,fr,g2⟩:=pH (UR t hg hb hl th ho (λpr h2=>∃l,pr=.ref l/\S1 h2/\h.length<=l/\h2[l]?=a_ (.lst ((mJ M th (vr M g (a_ ho)+1) (a_ ho) []).map pv))) λl h2 a b c=>⟨l,rfl,a,b,c⟩);let t2:=t.ext x2;let oa:mJ M th (vr M g (a_ ho)+1) (a_ ho) []=[] ↔ ¬ On M th (a_ ho):=by rw[Kv,HB hg (n:=vr M g (a_ ho)+1) ⋯]
  generalize mJ M th (vr M g (a_ ho)+1) (a_ ho) []=R at g2 oa;by_cases on:On M th (a_ ho)
  ·rw[if_pos on]at k;let hR:R≠[]:=λz=>(oa.mp z) on;let tr:tru (.ref l) h2=.ok true h2:=by simp[tru,cB,iU,g2,hR]
   let ap:=qC (p:=pv nm) t2.fail (by rw[yh];omega);rw[show L.map pv++[pv nm]=(L++[nm]).map pv by simp]at ap;let t3:=t2.lose (L':=L++[nm]);let k3:Kept lm lf h2 (h2.set lf (.lst ((L++[nm]).map pv))):=Xz;generalize h2.set lf (.lst ((L++[nm]).map pv))=h3 at ap t3 k3;simp[m2,e2,tr,aS,t2.ff,AB t2.fail,ap];rfl';simp;show k _ t3 ((Kept.of x2).trans k3)
  ·rw[if_neg on]at k;let hR:R=[]:=oa.mpr on;let tr:tru (.ref l) h2=.ok false h2:=by simp[tru,cB,iU,g2,hR]
   simp[m2,e2,tr];rfl';rw[aS];let m3:=bZ (mm:="put") (n:=3) (tb:=vU) (ms:=aB (mV 4) (aB (mV 5) (aB (jB 2 kN (aB (mV 6) (aB (mV 1) aL))) aL))) (δ:=[c_ lt,a_ (pv nm),a_ (.tup [.str "move",pv th,pv ho,spP sp]),a_ (.str "move"),a_ (pv th),a_ (pv ho),a_ (spP sp)]) (h:=h2) (h1:=h2) (mo:=mV 0) (k:=lt) (f:=fJ) (by simp) t2.ins (by simp[vU]) rfl;let hp:=RW t2 hl hr (a_ ho) (mK sp nm);let fg:fJ [.ref lt,pv th,pv ho,mK sp nm] h2=_:=hp;simp[m3,KA sp hs nm,fg];rfl';simp;show k _ t2.put ((Kept.of x2).trans Mu)
theorem NL{lt:Nat}(t:T_ 0)(hM:zV M)(hl:M.length<=1000)(hL:L.length<=1000)(nm:Nm)(sn:PV)(a:Act)(ha:RX a)(Q:PV->PH->Prop)(k:∀h',q1j (q0n a).1 (q0n a).2.1->q1h h'->Q (.str (q0n a).2.2) h'):(cY [.ref lt,.tup [pv nm,sn,.tup (jT a)]] h).W Q:=by
 refine eD ?_;unfold vV;rw[aS];simp;rfl';rw[aS];cases a with
 |make kd ho sp=>
  let m1:=bZ (mm:="hear_make") (n:=2) (tb:=pK) (ms:=aB (mV 2) (aB (mV 4) aL)) (δ:=[c_ lt,a_ (.tup [pv nm,sn,.tup (jT (.make kd ho sp))]),a_ (pv nm),a_ sn,a_ (.tup (jT (.make kd ho sp)))]) (h:=h) (h1:=h) (mo:=mV 0) (k:=lt) (f:=eZ) (by simp) t.ins (by simp[pK]) rfl;let e0:∀h,vIx (.tup (jT (.make kd ho sp))) (.int 0) h=.ok (.str "make") h:=λh=>by simp[jT]
  generalize hA:jT (.make kd ho sp)=A at m1 e0;simp[e0,m1];rw[<-hA];show US t hl nm kd ho sp ha _ k
 |move th ho sp=>
  let e0:∀h,vIx (.tup (jT (.move th ho sp))) (.int 0) h=.ok (.str "move") h:=λh=>by simp[jT]
  let e1:∀h,vIx (.tup (jT (.move th ho sp))) (.int 1) h=.ok (pv th) h:=λh=>by simp[jT]
  let m1:=bZ (mm:="hear_move") (n:=2) (tb:=pL) (ms:=aB (mV 2) (aB (mV 4) aL)) (δ:=[c_ lt,a_ (.tup [pv nm,sn,.tup (jT (.move th ho sp))]),a_ (pv nm),a_ sn,a_ (.tup (jT (.move th ho sp)))]) (h:=h) (h1:=h) (mo:=mV 0) (k:=lt) (f:=fB) (by simp) t.ins (by simp[pL]) rfl;generalize hA:jT (.move th ho sp)=A at m1 e0 e1;simp[e0];rfl';rw[aS];let hn:jD (pv th) (.ref lm) h=.ok (.bl (!(q0p th).isSome)) h:=by unfold pv;rw[AK];show t.hasNot th
  cases hr:q0p th with
  |none=>rw[hr]at hn;simp[e1,t.fm,hn];rw[xZ hr]at k;show k h t (Kept.of (Ext.refl _))
  |some r=>rw[hr]at hn;simp[e1,t.fm,hn];rfl';rw[aS];simp[e0];rfl';simp[m1];rw[<-hA];show UT t hM hl hL nm th ho sp ha hr _ k
 |drop th=>
  let e0:∀h,vIx (.tup (jT (.drop th))) (.int 0) h=.ok (.str "drop") h:=λh=>by simp[jT]
  let e1:∀h,vIx (.tup (jT (.drop th))) (.int 1) h=.ok (pv th) h:=λh=>by simp[jT]
  let m1:=bZ (mm:="put") (n:=3) (tb:=vU) (ms:=aB (D_ (mV 4) (p_ 1)) (aB (mC .non) (aB (mC .non) aL))) (δ:=[c_ lt,a_ (.tup [pv nm,sn,.tup (jT (.drop th))]),a_ (pv nm),a_ sn,a_ (.tup (jT (.drop th)))]) (h:=h) (h1:=h) (mo:=mV 0) (k:=lt) (f:=fJ) (by simp) t.ins (by simp[vU]) rfl;generalize hA:jT (.drop th)=A at m1 e0 e1;simp[e0];rfl';rw[aS];let hn:jD (pv th) (.ref lm) h=.ok (.bl (!(q0p th).isSome)) h:=by unfold pv;rw[AK];show t.hasNot th
  cases hr:q0p th with
  |none=>rw[hr]at hn;simp[e1,t.fm,hn];rw[yA hr]at k;show k h t (Kept.of (Ext.refl _))
  |some r=>rw[hr]at hn;simp[e1,t.fm,hn];rfl';rw[aS];let hp:=RW t hl hr b_ .non;let fg:fJ [.ref lt,pv th,.non,.non] h=_:=hp;simp[e0,aS,m1,e1,fg];rfl';simp;rw[AU hr]at k;show k _ t.put Mu
structure BJ(M:Md):Prop where
 nr:zV M
 ho:∀p r q,fnd M p=some r->r.hd=some q->q=root\/(fnd M q).isSome=true
 rt:fnd M root=none
theorem NM(h:uX M ho sp=true):ho=root\/(q0p ho).isSome=true:=by
 unfold uX at h;let h:=of_decide_eq_true h;unfold wD at h;by_cases e:ho=root
 ·show .inl e
 ·rw[if_neg e]at h;cases e2:q0p ho with
  |some r=>exact .inr rfl
  |none=>rw[e2]at h;dsimp only at h;split at h <;> cases h
theorem KB{q:Nm}(h:(q0p q).isSome=true):(fnd (mH M p r) q).isSome=true:=by
 rw[mI];split
 ·rfl
 ·show h
theorem BJ.put(t:BJ M)(hn:zV (mH M p r))(hp:p≠root)(hr:∀q,r.hd=a_ q->q=root\/(q0p q).isSome=true):BJ (mH M p r):=by
 refine⟨hn,λx rx q h1 h2=>?_,by rw[mI,if_neg (λz=>hp z.symm)];show t.rt⟩;rw[mI]at h1;have:q=root\/(q0p q).isSome=true:=by
  split at h1
  ·cases h1;show hr q h2
  ·show t.ho x rx q h1 h2
 show this.imp id KB
variable{a:Act}
theorem BJ.heard(t:BJ M)(hm:∀kd ho sp,a=.make kd ho sp->q0p nm=b_/\nm≠root):BJ (q0n a).1:=by
 let⟨f,hf⟩:=t.nr;let xo:∀{p:Nm}{r:Rc},q0p p=a_ r->p≠root:=λe z=>by rw[z,t.rt]at e;cases e
 cases a with
 |make kd ho sp=>
  rw[AR];split
  ·rename_i kr;let⟨h1,h2⟩:=hm kd ho sp rfl;let ay:=NM kr;refine t.put (Kz hf h1 (λz=>?_) λx rx hx z=>?_) h2 λq hq=>?_
   ·let e:ho=nm:=yx z;rcases ay with e2|e2
    ·show h2 (e▸e2)
    ·rw[e,h1]at e2;cases e2
   ·rcases t.ho x rx nm hx z with e2|e2
    ·show h2 e2
    ·rw[h1]at e2;cases e2
   ·cases hq;show ay
  ·show t
 |move th ho sp=>
  cases e:q0p th with
  |none=>rw[xZ e];show t
  |some r=>
   rw[AS e];split
   ·rename_i kr;split
    ·show t
    ·rename_i oa;show t.put (Kx hf e rfl oa) (xo e) λq hq=>by cases hq;show NM kr
   ·show t
 |drop th=>
  cases e:q0p th with
  |none=>rw[yA e];show t
  |some r=>rw[AU e];show t.put ⟨f,Ky hf e rfl⟩ (xo e) λq hq=>by cases hq
theorem BJ.nil:BJ []:=⟨⟨λ_=>0,λp r q h=>by cases h⟩,(λp r q h=>by cases h),rfl⟩
theorem NN(δ:Ev)(h:PH):∃h',pC "Tree" 0 cT aL δ h=.ok (.ref h.length) h'/\bK h' h.length (h.length+1) (h.length+2) [] []/\S1 h':=by
 let w:(cT [.ref h.length] (h++[.ins "Tree" []])).W λq h'=>q=.non/\bK h' h.length (h.length+1) (h.length+2) [] []/\S1 h':=by
  refine eD ?_;change (kL [q1b 0] _).W _;unfold kL;rw[aS];let g0:(h++[MO.ins "Tree" []]++[MO.dK []])[h.length]?=a_ (.ins "Tree" []):=by simp
  let gd:(h++[MO.ins "Tree" []]++[MO.dK []])[h.length+1]?=a_ (.dK []):=by simp
  let x0:S1 (h++[MO.ins "Tree" []]++[MO.dK []]):=(H_ _).trans (H_ _);let ln:(h++[MO.ins "Tree" []]++[MO.dK []]).length=h.length+2:=by simp
  simp only[IC,OG,Ij,QI,Bv];rw[show(h++[MO.ins "Tree" []]).length=h.length+1 by simp];generalize h++[MO.ins "Tree" []]++[MO.dK []]=hA at g0 gd x0 ln;let e1:=fH (f:="made") (p:=.ref (h.length+1)) g0 (by simp);refine⟨_,e1,now ?_⟩;let g1:=eM (o':=MO.ins "Tree" (iD "made" (.ref (h.length+1)) [])) g0;let wd:=bQ (o':=MO.ins "Tree" (iD "made" (.ref (h.length+1)) [])) gd (n:=h.length) ⋯;let x1:S1 (hA.set h.length (MO.ins "Tree" (iD "made" (.ref (h.length+1)) []))):=AN x0;let ti:(hA.set h.length (MO.ins "Tree" (iD "made" (.ref (h.length+1)) []))).length=h.length+2:=by rw[y0k];show ln
  generalize hA.set h.length (MO.ins "Tree" (iD "made" (.ref (h.length+1)) []))=hB at g1 wd x1 ti;simp only[IC,Ud,Il,Rs.bind_ok,YV,y2j,Ij,QI,Bv];rw[if_pos nofun];let g2:(hB++[MO.lst []])[h.length]?=a_ (MO.ins "Tree" (iD "made" (.ref (h.length+1)) [])):=H_ _ _ _ g1;let wx:(hB++[MO.lst []])[h.length+1]?=a_ (.dK []):=H_ _ _ _ wd;let wz:(hB++[MO.lst []])[h.length+2]?=a_ (.lst []):=by rw[<-ti];show aU
  let x2:S1 (hB++[MO.lst []]):=x1.trans (H_ _);rw[ti];generalize hB++[MO.lst []]=hC at g2 wx wz x2;let e2:=fH (f:="failed") (p:=.ref (h.length+2)) g2 (show 1<1000 by omega);refine⟨_,e2,trivial,⟨?_,?_,?_⟩,AN x2⟩
  ·have:=eM (o':=MO.ins "Tree" (iD "failed" (.ref (h.length+2)) (iD "made" (.ref (h.length+1)) []))) g2;rw[this];rfl
  ·show Nx (bQ wx ⋯)
  ·show bQ wz ⋯
 let⟨q,h',e,rfl,a,b⟩:=pH w;refine⟨h',?_,a,b⟩;rw[fI,Il];simp only[Rs.bind_ok,y2j,if_true];rw[e];rfl
theorem zaT{α:Type}{xs:z_ α}:mT xs (a_ 1) b_=xs.tail:=by
 unfold mT HT.sIx;cases xs with
 |nil=>rfl
 |cons a r=>simp
def XI(c many:Int)(h:PH)(q:Nat)(δ:Ev)(h':PH):Prop:=∃(xs:z_ Int)(n:Int),S1 h'/\h'[h.length]?=a_ (.lst (q1t 0))/\xs.length=q/\(∀x∈xs,0<=x/\x<2147483647)/\0<=n/\n<2147531918/\∃x4,δ=[d_ c,d_ many,q1b 0,d_ n,x4]
theorem HE(c:Int)(many:Nat)(hm:many<=100)(h:PH)(Q:PV->PH->Prop)(k:∀(xs:z_ Int) l h',S1 h'->h'[l]?=a_ (.lst (q1t 0))->xs.length=many->(∀x∈xs,0<=x/\x<2147483647)->Q (.ref l) h'):(sQ [.int c,.int many] h).W Q:=by
 refine eD ?_;unfold EY;rw[aS];simp;let x0:S1 (h++[MO.lst []]):=H_ _;let g0:(h++[MO.lst []])[h.length]?=a_ (.lst (([]:z_ Int).map PV.int)):=aU;generalize h++[MO.lst []]=hA at x0 g0;rfl';rw[aS];simp(disch:=omega);let hn:0<=c%2147483647+48271/\c%2147483647+48271<2147531918:=⋯;generalize c%2147483647+48271=n0 at hn;rfl';rw[aS];refine QM (j:=(many:Int)+1) (XI c many h) ?_ ⋯ ⟨[],n0,x0,g0,rfl,(λx hx=>by cases hx),hn.1,hn.2,_,rfl⟩ ?_ ?_
 ·simp
 ·rintro i δ h' hi ⟨xs,n,x,g,lx,bx,n1,n2,x4,rfl⟩;unfold EX;rw[aS];simp(disch:=omega);let hb:0<=(n*n+48271*n+(i:Int))%2147483647/\(n*n+48271*n+(i:Int))%2147483647<2147483647:=⟨Int.emod_nonneg _ ⋯,Int.emod_lt_of_pos _ ⋯⟩;generalize (n*n+48271*n+(i:Int))%2147483647=n' at hb;rfl';let ap:=qC (p:=.int n') g (by rw[yh];omega);rw[show q1t 0++[.int n']=(xs++[n']).map PV.int by simp]at ap;simp[AB g];rw[ap,Ij];refine⟨xs++[n'],n',AN x,eM g,by simp[lx],λz hz=>?_,hb.1,⋯,_,rfl⟩;rcases zf.mp hz with hz|hz
  ·show bx z hz
  ·rw[y0.mp hz];show hb
 ·rintro δ h' ⟨xs,n,x,g,lx,bx,n1,n2,x4,rfl⟩;rfl';simp only[VO,Xb,QI,Oz,Bv,Rs.bind_ok,Z1,VP,Ue,LY,Ip g,zaT,Ij];rw[<-List.map_tail];show k xs.tail _ _ (x.trans (H_ _)) aU (by rw[List.length_tail,lx];omega) λz hz=>bx z (List.mem_of_mem_tail hz)
theorem RY(zs:z_ Str):(y2I "" zs).length=(zs.map y2e).sum:=by
 let e0:(yi "").cps=#[]:=rfl;let key:∀(zs:z_ Str)(acc:q0G 0),((zs.foldl (λacc p=>acc++(yi "").cps++p.cps) acc).size)=acc.size+(zs.map y2e).sum:=by
  intro zs
  induction zs with
  |nil=>intro acc;simp
  |cons z zs ih=>intro acc;rw[List.foldl_cons,ih,yq,List.sum_cons,e0];simp[y2e];omega
 unfold y2I
 change((zs.drop 1).foldl (λacc p=>acc++(yi "").cps++p.cps) (zs.headD y2D).cps).size=_
 rw[key];cases zs with
 |nil=>rfl
 |cons z zs=>simp[y2e]
theorem RZ(zs:z_ Str):Uz "" zs=(zs.map y2e).sum:=by
 unfold Uz;let key:∀(zs:z_ Str)(n:Nat),zs.foldl (λa p=>a+p.length+("" : Str).length) n=n+(zs.map y2e).sum:=by
  intro zs
  induction zs with
  |nil=>intro n;simp
  |cons z zs ih=>intro n;rw[List.foldl_cons,ih,yq,List.sum_cons];have:("" : Str).length=0:=rfl;omega
 rw[List.foldl_toArray];rw[key];omega
theorem NO:∀zs:z_ Str,EN (zs.map PV.str)=a_ zs
 |[]=>rfl
 |z::zs=>by rw[yq];unfold EN;rw[NO zs];rfl
variable{zs:z_ Str}
theorem UU(g:h[n]?=a_ (.lst (zs.map PV.str)))(h1:∀z∈zs,z.length=1)(h2:2<=zs.length)(h3:zs.length<=1000):∃w:Str,Hn (.str "") [.ref n] h=.ok (.str w) h/\w.length=zs.length:=by
 let hs:(zs.map y2e).sum=zs.length:=by
  clear g h2 h3
  induction zs with
  |nil=>rfl
  |cons z zs ih=>rw[yq,List.sum_cons,h1 z ye,ih λy hy=>h1 y (yd _ hy),zt];omega
 let ej:jnd "" zs=y2I "" zs:=by
  match zs,h2 with
  |_::_::_,_=>rfl
 let hw:(jnd "" zs).length=zs.length:=by rw[ej,RY,hs]
 refine⟨jnd "" zs,?_,hw⟩;let el:iU h n=a_ (zs.map PV.str):=by simp[iU,g]
 let hz:(zs.length<=yo):=by rw[pI];omega
 unfold Hn;simp only[el,NO];rw[if_pos ⟨by rw[RZ,hs];show hz,by rw[hw];show hz⟩]
theorem zaU{α:Type}{xs:z_ α}:mT xs b_ (a_ 8)=xs.take 8:=by
 unfold mT HT.sIx;simp
 try omega
theorem HF(h0:0<=j)(h1:j<=z.length):(y0T z b_ (a_ j)).length=j.toNat:=by rw[<-len_list,RN h0 h1,y03,len_list];show Nat.min_eq_left (Int.toNat_le.mpr h1)
variable{i:Nat}
theorem BK{xs:z_ Int}(h:i<xs.length):atI (q1t 0) (i:Int)=a_ (.int xs[i]):=lY (by simp[h])
theorem S0(c:Int)(m:Nat)(h3:m<=6)(h:PH)(Q:PV->PH->Prop)(k:∀(hs:z_ Str)(l:Nat)(h':PH),h'[l]?=a_ (.lst (hs.map PV.str))->hs.length=m->Q (.ref l) h'):(DJ [.int c,.int m] h).W Q:=by
 refine eD ?_;unfold IH;rw[aS];simp;rfl';rw[aS];simp;refine HE c 10 ⋯ h _ λxs lx hA xA gA len bx=>?_
 try simp
 rfl';rw[aS]
 -- the stem
 let qu:=Ip (lo:=b_) (hi:=a_ 8) gA;rw[zaU,<-List.map_take]at qu;let gB:(hA++[MO.lst ((xs.take 8).map PV.int)])[hA.length]?=a_ (.lst ((xs.take 8).map PV.int)):=aU;let xB:Ext hA (hA++[MO.lst ((xs.take 8).map PV.int)]):=H_ _;generalize hA.length=lb at qu gB;generalize hA++[MO.lst ((xs.take 8).map PV.int)]=hB at qu gB xB;let hc:=sL (js:=[b_,a_ 2]) (tg:=gN 0) (tst:=oI) (elt:=D_ (mV 1) (q1g (mV 0) (p_ 26))) (m:=mSl (mV 3) rC (mP (p_ 8))) (δ:=[d_ c,d_ m,a_ (.str Kr),c_ lx,b_,b_]) (h:=hA) (h1:=hB) (n:=lb) (ys:=xs.take 8) (emb:=PV.int)
  (λx=>a_ (.str ⟨#[97+(x%26).toNat]⟩)) (by simp[qu]) gB (by rw[y03];omega) (λx hx=>⟨_,rfl,λh3 _=>⟨rfl,by
   let hl:=NH (i:=x%26) ⋯ ⋯;let hv:vIx (.str Kr) (.int (x%26)) h3=.ok (.str ⟨#[97+(x%26).toNat]⟩) h3:=by rw[Uh (by rw[Hz];omega),hl];rfl
   simp(disch:=omega) [nY,hv]⟩⟩)
 let e1:(xs.take 8).filterMap (λx=>a_ (PV.str ⟨#[97+(x%26).toNat]⟩))=((xs.take 8).map λx=>(⟨#[97+(x%26).toNat]⟩:Str)).map PV.str:=by rw[filterMap_some,z7];rfl
 rw[e1]at hc;let v8:∀z∈(xs.take 8).map (λx=>(⟨#[97+(x%26).toNat]⟩:Str)),z.length=1:=λz hz=>by let⟨x,_,rfl⟩:=y6.mp hz;rfl
 let hz2:((xs.take 8).map λx=>(⟨#[97+(x%26).toNat]⟩:Str)).length=8:=by rw[yh,y03];omega
 generalize (xs.take 8).map (λx=>(⟨#[97+(x%26).toNat]⟩:Str))=zs at hc v8 hz2;let gC:(hB++[MO.lst (zs.map PV.str)])[hB.length]?=a_ (.lst (zs.map PV.str)):=aU;let xC:Ext hB (hB++[MO.lst (zs.map PV.str)]):=H_ _;generalize hB.length=lc at hc gC;generalize hB++[MO.lst (zs.map PV.str)]=hC at hc gC xC;let⟨w,ew,lw⟩:=UU gC v8 ⋯ ⋯;let ist:Xm (.str ("" : Str)) hA=true:=rfl;simp[ist,hc,ew];let gX:hC[lx]?=a_ (.lst (q1t 0)):=xC _ _ (xB _ _ gA);let a8:atI (q1t 0) 8=a_ (.int xs[8]):=BK (i:=8) ⋯;let a9:atI (q1t 0) 9=a_ (.int xs[9]):=BK (i:=9) ⋯;let b8:=bx xs[8] (zp _);let b9:=bx xs[9] (zp _);generalize xs[8]=x8 at a8 b8;generalize xs[9]=x9 at a9 b9;rfl';rw[aS];simp(disch:=omega);split
 ·let jw:=K1 (js:=[b_,a_ 4,a_ 3]) (tg:=gN 0) (tst:=oI) (elt:=mSl (mV 1) rC (mP (aE cE (p_ 1) (q1g (aE cE (mV 0) (D_ (mV 2) (p_ 8))) (p_ 8))))) (ms:=aB (mV 1) aL)
   (δ:=[d_ c,d_ m,a_ (.str Kr),c_ lx,a_ (.str w),b_]) (h:=hC) (h1:=hC) (j:=m) (λi=>a_ (.str (y0T w b_ (a_ (1+((i:Int)+x8)%8))))) (by simp) ⋯
   (λi hi=>⟨_,rfl,λh3 hx=>⟨rfl,by simp(disch:=omega) [nY,mE (hx _ _ gX),a8]⟩⟩)
  simp[jw];have:=k ((za m).map λ(i:Nat)=>y0T w b_ (a_ (1+((i:Int)+x8)%8))) hC.length (hC++[.lst (((za m).map λ(i:Nat)=>y0T w b_ (a_ (1+((i:Int)+x8)%8))).map PV.str)]) aU (by simp);rw[z7]at this;show this
 ·rfl';rw[aS];simp(disch:=omega) [mE gX,a8];let l1:=HF (z:=w) (j:=1+x8%8) ⋯ ⋯;generalize y0T w b_ (a_ (1+x8%8))=z at l1;rfl';rw[aS];simp(disch:=omega) [mE gX,a9];let vo:0<=x9%(z.length:Int)/\x9%(z.length:Int)<z.length:=⟨Int.emod_nonneg _ ⋯,Int.emod_lt_of_pos _ ⋯⟩;generalize x9%(z.length:Int)=at' at vo;let q1:=HF (z:=z) vo.1 ⋯;let s2:=Mq (z:=z) (j:=at'+1) ⋯ ⋯;let q2:(y0T z (a_ (at'+1)) b_).length=z.length-(at'+1).toNat:=by rw[<-len_list,s2,List.length_drop,len_list]
  let hll:=Hz;let jw:=K1 (js:=[b_,a_ 4,a_ 2,a_ 5,a_ 3]) (tg:=gN 0) (tst:=oI) (elt:=aE cE (aE cE (mSl (mV 1) rC (mP (mV 3))) (D_ (mV 2) (q1g (aE cE (aE G3 (D_ (mV 4) (mC (PV.int 9))) (mC (PV.int 8))) (aE Ie (mC (PV.int 5)) (mV 0))) (mC (PV.int 26))))) (mSl (mV 1) (mP (aE cE (mV 3) (mC (PV.int 1)))) rC)) (ms:=aB (mV 1) aL)
   (δ:=[d_ c,d_ m,a_ (.str Kr),c_ lx,a_ (.str z),d_ at']) (h:=hC) (h1:=hC) (j:=m) (λi=>a_ (.str (y0T z b_ (a_ at')++(⟨#[97+((x9/8+5*(i:Int))%26).toNat]⟩:Str)++y0T z (a_ (at'+1)) b_))) (by simp) ⋯
   (λi hi=>⟨_,rfl,λh3 hx=>⟨rfl,by
    let jw:=NH (i:=(x9/8+5*(i:Int))%26) ⋯ ⋯;let q3:(⟨#[97+((x9/8+5*(i:Int))%26).toNat]⟩:Str).length=1:=rfl;let q4:(y0T z b_ (a_ at')++(⟨#[97+((x9/8+5*(i:Int))%26).toNat]⟩:Str)).length=at'.toNat+1:=by rw[RM,q1]
    simp(disch:=omega) [nY,jw,mE (hx _ _ gX),a9]⟩⟩)
  rfl';simp[jw];have:=k ((za m).map λ(i:Nat)=>y0T z b_ (a_ at')++(⟨#[97+((x9/8+5*(i:Int))%26).toNat]⟩:Str)++y0T z (a_ (at'+1)) b_) hC.length (hC++[.lst (((za m).map λ(i:Nat)=>y0T z b_ (a_ at')++(⟨#[97+((x9/8+5*(i:Int))%26).toNat]⟩:Str)++y0T z (a_ (at'+1)) b_).map PV.str)]) aU (by simp);rw[z7]at this;show this
variable{Q:PV->PH->Prop}{cn:Str}{h1:PH}{ms:Ma}{ps:z_ PV}{δ:Ev}
theorem BL{f:Fn}(e:ms δ h=.ok ps h1)(l:ps.length=n)(w:(f (.ref h1.length::ps) (h1++[.ins cn []])).W λv h2=>v=.non/\Q (.ref h1.length) h2):(pC cn n f ms δ h).W Q:=by let⟨v,h2,e2,rfl,q⟩:=pH w;rw[fI,e,Rs.bind_ok,if_pos l,e2,Rs.bind_ok];dsimp only;rw[Ij];show q
theorem HG{κ:Type}[q0P 0](kvs:z_ (κ×PV))(k:κ)(p:PV)(k':κ):bB (lW kvs k p) k'=if k'=k then a_ p else bB kvs k':=by
 let m:∀kvs:z_ (κ×PV),bB (kvs.map λkv=>if kv.1=k then(kv.1,p) else kv) k'=if k'=k then(q0H k).map (λ_=>p) else q0H k':=λkvs=>by
  induction kvs with
  |nil=>simp[bB]
  |cons x r ih=>
   let⟨a,y⟩:=x;rw[yq];by_cases e:a=k
   ·subst e;simp only[if_pos,bB];rw[ih];by_cases c:k'=a
    ·subst c;simp
    ·let c2:¬ a=k':=λz=>c z.symm;simp[c,c2]
   ·simp only[if_neg e,bB];rw[ih];by_cases c:k'=k
    ·subst c;simp[e]
    ·simp[c]
 let a:∀kvs:z_ (κ×PV),q0H k=b_->bB (kvs++[(k,p)]) k'=if k'=k then a_ p else bB kvs k':=λkvs=>by
  induction kvs with
  |nil=>
   intro _;by_cases c:k'=k
   ·simp[bB,c]
   ·let c2:¬ k=k':=λz=>c z.symm;simp[bB,c,c2]
  |cons x r ih=>
   let⟨a,y⟩:=x;intro e;unfold bB at e;split at e
   ·cases e
   ·rename_i c;rw[List.cons_append];unfold bB;rw[ih e];by_cases q:k'=k
    ·subst q;simp[c]
    ·simp[q]
 unfold lW;split
 ·rename_i c;rw[m];let⟨v,e⟩:=y1l.mp c;rw[e];rfl
 ·rename_i c;show a kvs (k_ c)
theorem NP{κ:Type}[q0P 0](kvs:z_ (κ×PV))(k:κ)(p:PV):(lW kvs k p).length<=kvs.length+1:=by unfold lW;split <;> simp
theorem Pb(S:Seen)(nm:Str×Int)(h:PH):qI [sv S,pv nm] h=.ok (.bl (match look S nm.1 with|some n=>decide (nm.2<=n)|none=>false)) h:=by
 let w:(qI [sv S,pv nm] h).W λq h'=>q=.bl (match look S nm.1 with|some n=>decide (nm.2<=n)|none=>false)/\h'=h:=by
  refine eD ?_;unfold F0;rw[aS];refine Xc (xs:=S.map pv) (λq δ h'=>h'=h/\look (S.drop q) nm.1=look S nm.1/\∃x2 x3,δ=[a_ (sv S),a_ (pv nm),x2,x3]) (.inl (by simp[RP])) ⟨rfl,rfl,_,_,rfl⟩ ?_ ?_
  ·rintro q x δ h' hx ⟨rfl,hk,x2,x3,rfl⟩;rw[yy]at hx;let⟨p,hp,rfl⟩:=zq.mp hx;let hd:S.drop q=p::S.drop (q+1):=by let⟨hl,e⟩:=xt.mp hp;rw[List.drop_eq_getElem_cons hl,e]
   rw[hd,P7]at hk;refine⟨_,by simp[pv];rfl,?_⟩;unfold EZ;by_cases e:p.1=nm.1
   ·rw[if_pos e]at hk;simp[pv,e];rw[<-hk]
   ·rw[if_neg e]at hk;simp[pv,e];show hk
  ·rintro δ h' ⟨rfl,hk,x2,x3,rfl⟩;rfl';rw[yh,List.drop_length]at hk;simp[<-hk,look]
 let⟨q,h',e,rfl,rfl⟩:=pH w;show e
def rwN(r:Nm×Int):PV:=.tup [pv r.1,.int r.2]
def LsC(kd cn:Str):Prop:=(kd="choice" /\ cn="Choice")\/(kd="bag" /\ cn="Bag")
inductive oC(h:PH)(b n:Nat)(kd:Str)(c:Nat):Prop
 |cnt (i:Int) (e:kd="count") (bc:b<=c) (g:h[c]?=some (.ins "Count" [("total",.int i)]))
 |lst (cn:Str) (s:Nat) (R:z_ (Nm×Int)) (e:LsC kd cn) (bc:b<=c) (g:h[c]?=some (.ins cn [("standing",.ref s)])) (bs:b<=s) (gs:h[s]?=some (.lst (R.map rwN))) (ln:R.length<=n)
 |txt (s m k t:Nat) (e:kd="text") (bc:b<=c) (g:h[c]?=some (.ins "Text" [("signs",.ref s),("marks",.ref m)])) (b4:b<=s/\b<=m/\b<=k/\b<=t) (gs:h[s]?=some (.ins "Signs" [("kept",.ref k)])) (gk:h[k]?=some (.dK [])) (gm:h[m]?=some (.ins "Marks" [("standing",.ref t)])) (gt:h[t]?=some (.lst []))
variable{b:Nat}
theorem oC.keep(f:oC h b n kd c)(k:∀(i:Nat) o,b<=i->h[i]?=a_ o->h'[i]?=a_ o):oC h' b n kd c:=by
 cases f with
 |cnt i e bc g=>exact .cnt i e bc (q0X bc g)
 |lst cn s R e bc g bs gs ln=>exact .lst cn s R e bc (q0X bc g) bs (q0X bs gs) ln
 |txt s m k' t e bc g b4 gs gk gm gt=>exact .txt s m k' t e bc (q0X bc g) b4 (q0X b4.1 gs) (q0X b4.2.2.1 gk) (q0X b4.2.1 gm) (q0X b4.2.2.2 gt)
variable{n':Nat}
theorem oC.more{b':Nat}(f:oC h b n kd c)(hb:b'<=b)(hn:n<=n'):oC h b' n' kd c:=by
 cases f with
 |cnt i e bc g=>exact .cnt i e (ze hb bc) g
 |lst cn s R e bc g bs gs ln=>exact .lst cn s R e (ze hb bc) g (ze hb bs) gs (ze ln hn)
 |txt s m k t e bc g b4 gs gk gm gt=>exact .txt s m k t e (ze hb bc) g ⟨ze hb b4.1,ze hb b4.2.1,ze hb b4.2.2.1,ze hb b4.2.2.2⟩ gs gk gm gt
theorem LsC.ne(e:LsC kd cn):cn≠"Count" /\ cn≠"Text" /\ cn≠"Signs" /\ cn≠"Marks" := by rcases e with⟨_,rfl⟩|⟨_,rfl⟩ <;> refine⟨?_,?_,?_,?_⟩ <;> decide +kernel
theorem Zn:("Count" : Str)≠"Text" /\ ("Count" : Str)≠"Signs" /\ ("Count" : Str)≠"Marks" := by refine⟨?_,?_,?_⟩ <;> decide +kernel
theorem S3{j:Nat}{fs:z_ (Str×PV)}(g:h[i]?=a_ o)(g0:h[j]?=a_ (.ins cn fs))(hn:∀fs,o≠.ins cn fs):i≠j:=λz=>by subst z;rw[g]at g0;show hn fs (yx g0)
variable{c0:Nat}{x:z_ (Str×PV)}
theorem oC.setC(f:oC h b n kd c)(g0:h[c0]?=a_ (.ins "Count" x))(j:Int):oC (h.set c0 (.ins "Count" [("total",.int j)])) b n kd c:=by
 let⟨n1,n2,n3⟩:=Zn;let fr:∀(i:Nat) o,h[i]?=a_ o->(∀fs,o≠.ins "Count" fs)->(h.set c0 (.ins "Count" [("total",.int j)]))[i]?=a_ o:=λi o e hn=>bQ e (y1o (S3 e g0 hn));cases f with
 |cnt i e bc g=>
  by_cases z:c=c0
  ·subst z;show .cnt j e bc (eM g)
  ·show .cnt i e bc (bQ g (λw=>z w.symm))
 |lst cn s R e bc g bs gs ln=>exact .lst cn s R e bc (q0M g λfs z=>e.ne.1 (MO.ins.inj z).1) bs (q0M gs λfs z=>q0N 0) ln
 |txt s m k t e bc g b4 gs gk gm gt=>exact .txt s m k t e bc (q0M g λfs z=>n1 (MO.ins.inj z).1.symm) b4 (q0M gs λfs z=>n2 (MO.ins.inj z).1.symm) (q0M gk λfs z=>q0N 0) (q0M gm λfs z=>n3 (MO.ins.inj z).1.symm) (q0M gt λfs z=>q0N 0)
variable{R':z_ (Nm×Int)}
theorem oC.setL{s':Nat}{t7 o6:Str}(f:oC h b n kd c)(e0:LsC t7 o6)(g0:h[c0]?=a_ (.ins o6 x))(bs':b<=s')(gs':h[s']?=a_ (.lst (R'.map rwN)))(ln':R'.length<=n):oC (h.set c0 (.ins o6 [("standing",.ref s')])) b n kd c:=by
 let⟨n0,n1,n2,n3⟩:=e0.ne;let fr:∀(i:Nat) o,h[i]?=a_ o->(∀fs,o≠.ins o6 fs)->(h.set c0 (.ins o6 [("standing",.ref s')]))[i]?=a_ o:=λi o e hn=>bQ e (y1o (S3 e g0 hn));cases f with
 |cnt i e bc g=>exact .cnt i e bc (q0M g λfs z=>n0 (MO.ins.inj z).1.symm)
 |lst cn s R e bc g bs gs ln=>
  by_cases z:c=c0
  ·subst z;rw[g]at g0;have:=(MO.ins.inj (yx g0)).1;subst this;show .lst cn s' R' e bc (eM g) bs' (q0M gs' λfs z=>q0N 0) ln'
  ·show .lst cn s R e bc (bQ g (λw=>z w.symm)) bs (q0M gs λfs z=>q0N 0) ln
 |txt s m k t e bc g b4 gs gk gm gt=>exact .txt s m k t e bc (q0M g λfs z=>n1 (MO.ins.inj z).1.symm) b4 (q0M gs λfs z=>n2 (MO.ins.inj z).1.symm) (q0M gk λfs z=>q0N 0) (q0M gm λfs z=>n3 (MO.ins.inj z).1.symm) (q0M gt λfs z=>q0N 0)
def pD(kd:Str):Bool:=decide (kd="count" \/ kd="choice" \/ kd="bag" \/ kd="text")
def Pc(kd:Str):Prop:=kd="map" \/ kd="row" \/ pD kd=true
theorem eqs(x y:Str)(h:PH):vEq (.str x) (.str y) h=.ok (.bl (decide (x=y))) h:=by
 rw[zH rfl rfl];by_cases e:x=y
 ·simp[e]
 ·have:¬ PV.str x=PV.str y:=λz=>e (PV.str.inj z);simp[e,this]
theorem UV(hk:pD kd=true)(k:∀c h',S1 h'->oC h' h.length 0 kd c->Q (.ref c) h'):(pU [.str kd] h).W Q:=by
 let hk:=of_decide_eq_true hk;refine eD ?_;unfold xX;rw[aS,fG];let lst:∀(cn:Str)(f:Fn),LsC kd cn->(∀ps h,f ps h=mFn 1 (mF "standing" (mV 0) (oH aL)) ps h)->(pC cn 0 f aL [a_ (.str kd)] h).W Q:=λcn f ec ef=>by refine BL (ps:=[]) (h1:=h) rfl rfl ?_;rw[ef];refine eD ?_;let g:(h++[MO.ins cn []])[h.length]?=a_ (.ins cn []):=aU;let x0:S1 (h++[MO.ins cn []]):=H_ _;generalize h++[MO.ins cn []]=hA at g x0;let lA:=(xt.mp g).1;simp;let x1:Ext hA (hA++[MO.lst []]):=H_ _;let g1:=x1 _ _ g;refine⟨_,fH g1 (by simp),?_⟩;show q0X ((x0.trans x1).setN (yg _)) (.lst cn hA.length [] ec (yg _) (eM g1) ⋯ (bQ aU ⋯) (by simp))
 by_cases c1:kd="count"
 ·simp[-fI,eqs,c1];refine BL (ps:=[]) (h1:=h) rfl rfl ?_;refine eD ?_;unfold mX;let g:(h++[MO.ins "Count" []])[h.length]?=a_ (.ins "Count" []):=aU;simp;refine⟨_,fH g (by simp),?_⟩;show q0X ((H_ _).setN (yg _)) (.cnt 0 c1 (yg _) (eM g))
 simp[-fI,eqs,c1];rfl';rw[aS,fG];by_cases c2:kd="choice"
 ·simp[-fI,eqs,c2];have:=lst "Choice" fV (.inl ⟨c2,rfl⟩) λ_ _=>rfl;rw[c2]at this;show this
 simp[-fI,eqs,c2];rfl';rw[aS,fG];by_cases c3:kd="bag"
 ·simp[-fI,eqs,c3];have:=lst "Bag" jF (.inr ⟨c3,rfl⟩) λ_ _=>rfl;rw[c3]at this;show this
 simp[-fI,eqs,c3];rfl';rw[aS,fG];let c4:kd="text" := by simpa[c1,c2,c3] using hk
 simp[-fI,eqs,c4];refine BL (ps:=[]) (h1:=h) rfl rfl ?_;refine eD ?_;unfold oM;let g:(h++[MO.ins "Text" []])[h.length]?=a_ (.ins "Text" []):=aU;let x0:S1 (h++[MO.ins "Text" []]):=H_ _;generalize h++[MO.ins "Text" []]=hA at g x0;let lA:=(xt.mp g).1;rw[aS,IC];refine BL (ps:=[]) (h1:=hA) rfl rfl ?_;refine eD ?_;unfold mY;let gS:(hA++[MO.ins "Signs" []])[hA.length]?=a_ (.ins "Signs" []):=aU;let xS:Ext hA (hA++[MO.ins "Signs" []]):=H_ _;let lS:(hA++[MO.ins "Signs" []]).length=hA.length+1:=by simp
 generalize hA++[MO.ins "Signs" []]=hB at gS xS lS;simp;let xB:Ext hB (hB++[MO.dK []]):=H_ _;let gK:(hB++[MO.dK []])[hB.length]?=a_ (.dK []):=aU;refine⟨_,fH (xB _ _ gS) (by simp),?_⟩;let gT:=bQ (o':=MO.ins "Signs" (iD "kept" (.ref hB.length) [])) ((xS.trans xB) _ _ g) (n:=hA.length) ⋯;let xC:S1 ((hB++[MO.dK []]).set hA.length (MO.ins "Signs" (iD "kept" (.ref hB.length) []))):=((x0.trans xS).trans xB).setN ⋯;let qj:((hB++[MO.dK []]).set hA.length (MO.ins "Signs" (iD "kept" (.ref hB.length) [])))[hA.length]?=a_ (.ins "Signs" [("kept",.ref hB.length)]):=eM (xB _ _ gS);let mw:((hB++[MO.dK []]).set hA.length (MO.ins "Signs" (iD "kept" (.ref hB.length) [])))[hB.length]?=a_ (.dK []):=bQ gK ⋯;generalize (hB++[MO.dK []]).set hA.length (MO.ins "Signs" (iD "kept" (.ref hB.length) []))=hC at gT xC qj mw;refine⟨_,fH gT (by simp),?_⟩;let wm:(hC.set h.length (MO.ins "Text" (iD "signs" (.ref hA.length) [])))[h.length]?=a_ (.ins "Text" [("signs",.ref hA.length)]):=eM gT;let xD:S1 (hC.set h.length (MO.ins "Text" (iD "signs" (.ref hA.length) []))):=xC.setN (yg _);let uh:=bQ (o':=MO.ins "Text" (iD "signs" (.ref hA.length) [])) qj (n:=h.length) ⋯;let rn:=bQ (o':=MO.ins "Text" (iD "signs" (.ref hA.length) [])) mw (n:=h.length) ⋯;generalize hC.set h.length (MO.ins "Text" (iD "signs" (.ref hA.length) []))=hD at wm xD uh rn;let lD:=(xt.mp uh).1;rfl';rw[IC];refine BL (ps:=[]) (h1:=hD) rfl rfl ?_;refine eD ?_;unfold mZ;let gM:(hD++[MO.ins "Marks" []])[hD.length]?=a_ (.ins "Marks" []):=aU;let xM:Ext hD (hD++[MO.ins "Marks" []]):=H_ _;let lM:(hD++[MO.ins "Marks" []]).length=hD.length+1:=by simp
 generalize hD++[MO.ins "Marks" []]=hE at gM xM lM;simp;let xE:Ext hE (hE++[MO.lst []]):=H_ _;let gL:(hE++[MO.lst []])[hE.length]?=a_ (.lst []):=aU;refine⟨_,fH (xE _ _ gM) (by simp),?_⟩;let xF:S1 ((hE++[MO.lst []]).set hD.length (MO.ins "Marks" (iD "standing" (.ref hE.length) []))):=((xD.trans xM).trans xE).setN ⋯;let lk:=(xt.mp rn).1;let fr:∀(i:Nat) o,i<hD.length->hD[i]?=a_ o->((hE++[MO.lst []]).set hD.length (MO.ins "Marks" (iD "standing" (.ref hE.length) [])))[i]?=a_ o:=λi o hi e=>bQ ((xM.trans xE) _ _ e) ⋯;let rg:=fr _ _ ⋯ wm;let wq:=q0M lD uh;let wo:=q0M lk rn;let we:((hE++[MO.lst []]).set hD.length (MO.ins "Marks" (iD "standing" (.ref hE.length) [])))[hD.length]?=a_ (.ins "Marks" [("standing",.ref hE.length)]):=eM (xE _ _ gM);let w6:((hE++[MO.lst []]).set hD.length (MO.ins "Marks" (iD "standing" (.ref hE.length) [])))[hE.length]?=a_ (.lst []):=bQ gL ⋯;generalize (hE++[MO.lst []]).set hD.length (MO.ins "Marks" (iD "standing" (.ref hE.length) []))=hG at xF rg wq wo we w6;refine⟨_,fH rg (by simp),?_⟩;show q0X (xF.setN (yg _)) (.txt hA.length hD.length hB.length hE.length c4 (yg _) (eM rg) ⟨⋯,⋯,⋯,⋯⟩ (bQ wq ⋯) (bQ wo ⋯) (bQ we ⋯) (bQ w6 ⋯))
theorem UW(hk:pD kd=false)(h:PH):pU [.str kd] h=.ok .non h:=by
 let hk:=of_decide_eq_false hk;let w:(pU [.str kd] h).W λq h'=>q=.non/\h'=h:=by refine eD ?_;unfold xX;let c1:¬ kd="count" := λz=>hk (.inl z);let c2:¬ kd="choice" := λz=>hk (.inr (.inl z));let c3:¬ kd="bag" := λz=>hk (.inr (.inr (.inl z)));let c4:¬ kd="text" := λz=>hk (.inr (.inr (.inr z)));rw[aS,fG];simp[-fI,eqs,c1];rfl';rw[aS,fG];simp[-fI,eqs,c2];rfl';rw[aS,fG];simp[-fI,eqs,c3];rfl';rw[aS,fG];simp[-fI,eqs,c4];rfl';simp
 let⟨q,h',e,rfl,rfl⟩:=pH w;show e
def UX(h:PH)(b n:Nat)(kvs:z_ (PV×PV))(p:Nm):A_ Rc->Prop
 |some r=>if pD r.kd=true then ∃c,q0H (pv p)=c_ c/\oC h b n r.kd c else bB kvs (pv p)=b_
 |none=>q0H (pv p)=b_
variable{ax:z_ (PV×PV)}
theorem UX.imp{r r':A_ Rc}(v:UX h b n kvs p r)(ek:r.map (·.kd)=r'.map (·.kd))(ed:bB ax (pv p)=q0H (pv p))(f:∀kd c,oC h b n kd c->oC h' b n' kd c):UX h' b n' ax p r':=by
 cases r with
 |none=>
  cases r' with
  |none=>show bB ax (pv p)=b_;rw[ed];show v
  |some r'=>cases ek
 |some r=>
  cases r' with
  |none=>cases ek
  |some r'=>
   let e:r.kd=r'.kd:=yx ek;let v:if pD r.kd=true then ∃c,q0H (pv p)=c_ c/\oC h b n r.kd c else bB kvs (pv p)=b_:=v
   change if pD r'.kd=true then ∃c,bB ax (pv p)=c_ c/\oC h' b n' r'.kd c else bB ax (pv p)=b_
   rw[e]at v;rw[ed];split
   ·rename_i c;rw[if_pos c]at v;let⟨x,h1,h2⟩:=v;show⟨x,h1,f _ _ h2⟩
   ·rename_i c;rw[if_neg c]at v;show v
structure FS(h:PH)(a0 l lt lm lf ll b n:Nat)(M:Md)(L:z_ Nm):Prop where
 fo:h[l]?=some (.ins "Folding" [("tree",.ref lt),("leaves",.ref ll)])
 tr:bK h lt lm lf M L
 lo:a0<=l/\a0<=lt/\a0<=lm/\a0<=lf/\a0<=ll
 hi:l<b/\lt<b/\lm<b/\lf<b/\ll<b
 ne:ll≠lm
 bl:b<=h.length
 lv:∃kvs,cO h ll=some kvs/\kvs.length<=n/\∀p,UX h b n kvs p (fnd M p)
def Kb(a0 lf:Nat)(h h':PH):Prop:=(∀(i:Nat) o,i<a0->h[i]?=a_ o->h'[i]?=a_ o)/\∀(i:Nat) xs,i≠lf->h[i]?=a_ (.lst xs)->h'[i]?=a_ (.lst xs)
variable{a0:Nat}
theorem Kb.trans(x:Kb a0 lf h h')(y:Kb a0 lf h' h2):Kb a0 lf h h2:=⟨λi o hi e=>y.1 i o hi (x.1 i o hi e),λi o hi e=>y.2 i o hi (x.2 i o hi e)⟩
theorem rP(t:cO h n=a_ kvs)(k:∀o,h[n]?=a_ o->h'[n]?=a_ o):cO h' n=a_ kvs:=by let⟨o,ho,_,hh⟩:=fU t;show hh _ (k o ho)
theorem DT(t:cO h n=a_ kvs)(g:h[n]?=a_ (.lst xs)):False:=by simp[cO,g]at t
theorem DU{fs:z_ (Str×PV)}(t:cO h n=a_ kvs)(g:h[n]?=a_ (.ins cn fs)):False:=by simp[cO,g]at t
theorem Kept.len{lt:Nat}(k:q1h h')(t:q1j M L):h.length<=h'.length:=by
 rcases Nat.lt_or_ge h'.length h.length with z|z
 ·let g:h[h'.length]?=a_ h[h'.length]:=y10 z;let⟨o,ho,_⟩:=fU t.made;let l1:=(xt.mp ho).1;let l2:=(xt.mp t.fail).1;have:=(xt.mp (k _ _ ⋯ ⋯ g)).1;omega
 ·show z
variable{l ll:Nat}
theorem FS.ft{lt:Nat}(f:O_ 0):cW "tree" (.ref l) h=.ok (.ref lt) h:=iV f.fo rfl
theorem FS.fl{lt:Nat}(f:O_ 0):cW "leaves" (.ref l) h=.ok (.ref ll) h:=iV f.fo rfl
theorem FS.more{lt:Nat}(f:O_ 0)(hn:n<=n'):FS h a0 l lt lm lf ll b n' M L:=by let⟨kvs,t,lk,v⟩:=f.lv;show⟨f.fo,f.tr,f.lo,f.hi,f.ne,f.bl,kvs,t,⋯,λp=>(v p).imp rfl rfl λ_ _ z=>z.more (yg _) hn⟩
theorem FS.tree{lt:Nat}(f:O_ 0)(t:q1j M' L')(k:q1h h')(ek:∀p,(q0p p).map (·.kd)=(fnd M' p).map (·.kd)):q1u n M' L':=by
 let⟨kvs,tl,lk,v⟩:=f.lv;let d1:l≠lm:=λz=>by subst z;show DU f.tr.made f.fo
 let d2:l≠lf:=λz=>by subst z;have:=f.tr.fail;rw[f.fo]at this;cases this
 let d3:ll≠lf:=λz=>by subst z;show DT tl f.tr.fail
 refine⟨q0X d1 d2 f.fo,t,f.lo,f.hi,f.ne,ze f.bl (k.len t),kvs,rP tl λo ho=>q0X f.ne d3 ho,lk,λp=>(v p).imp (ek p) rfl λ_ _ z=>z.keep λi o hi e=>q0X (by have:=f.hi;omega) (by have:=f.hi;omega) e⟩
theorem Kept.kb{lt:Nat}(f:O_ 0)(k:q1h h'):Kb a0 lf h h':=⟨λi o hi e=>k i o (by have:=f.lo;omega) (by have:=f.lo;omega) e,λi xs hi e=>k i _ (λz=>by subst z;show DT f.tr.made e) hi e⟩
theorem XA{lt:Nat}(fo:h[l]?=a_ (.ins "Folding" [("tree",.ref lt),("leaves",.ref ll)]))(tl:cO h ll=a_ kvs)(lk:kvs.length<=1000)(bl:b<=h.length)(hb:ll<b)(k:∀h' ax,(∀(i:Nat) o,i≠ll->h[i]?=a_ o->h'[i]?=a_ o)->h.length<=h'.length->cO h' ll=a_ ax->ax.length<=kvs.length+1->(∀p',p'≠p->bB ax (pv p')=q0H (pv p'))->(if pD kd=true then ∃c,bB ax (pv p)=c_ c/\oC h' b 0 kd c else bB ax (pv p)=q0H (pv p))->Q .non h'):(dR [.ref l,pv p,.str kd] h).W Q:=by
 refine eD ?_;unfold kO;rw[aS];cases hk:pD kd with
 |false=>simp[UW hk];rfl';let nn:Bw .non .non h=.ok (.bl false) h:=rfl;simp[nn];show k h kvs (λ_ _ _ e=>e) (yg _) tl ⋯ (λ_ _=>rfl) (by rw[hk,if_neg yl])
 |true=>
  simp;refine UV hk λc h1 x1 f1=>?_;rfl';let fl:cW "leaves" (.ref l) h1=.ok (.ref ll) h1:=iV (x1 _ _ fo) rfl;let t1:=sN x1 tl;let hp:sO (.ref ll) (pv p) (.ref c) h1=a_ (h1.set ll (.dD (lW kvs (pv p) (.ref c)))):=DH t1 rfl ⋯;let⟨o,ho,_,_⟩:=fU tl;let nn:Bw (.ref c) .non h1=.ok (.bl true) h1:=rfl;simp[nn,fl];refine⟨_,hp,q0X (λi o hi e=>bQ (x1 _ _ e) (y1o hi)) (by rw[y0k];show x1.len) (AG (eM (x1 _ _ ho))) (NP _ _ _) (λp' fg=>?_) ?_⟩
  ·rw[HG,if_neg (λz=>fg (zU z))]
  ·rw[hk,q0k 0,HG,q0k 0];show⟨c,rfl,(f1.more bl (yg _)).keep λi o hi e=>bQ e ⋯⟩
theorem nTC:¬ (yi "Tree")=yi "Count" := by decide +kernel
theorem nTH:¬ (yi "Tree")=yi "Choice" := by decide +kernel
theorem nTB:¬ (yi "Tree")=yi "Bag" := by decide +kernel
theorem nHC:¬ (yi "Choice")=yi "Count" := by decide +kernel
theorem nBC:¬ (yi "Bag")=yi "Count" := by decide +kernel
theorem nBH:¬ (yi "Bag")=yi "Choice" := by decide +kernel
theorem tbT:iH "Tree" = a_ cY:=by simp[iH,nTC,nTH,nTB]
theorem tbC:iH "Count" = a_ dS:=by simp[iH]
theorem tbH:iH "Choice" = a_ dB:=by simp[iH,nHC]
theorem tbB:iH "Bag" = a_ gE:=by simp[iH,nBC,nBH]
def Pd:Spot->Prop
 |.key _=>True
 |.place u s=>u.all (PV.pl 37)=true/\(spP (.place u s)).pl 37=true
def KdA:Act->Prop
 |.make kd _ sp=>Pc kd/\Pd sp
 |.move _ _ sp=>Pd sp
 |.drop _=>True
theorem KC(h:Pd sp)(nm:Nm):(mK sp nm).pl 38=true:=by
 cases sp with
 |key z=>rfl
 |place u s=>
  let h:u.all (PV.pl 37)=true:=h.1
  change(u++[PV.tup [.int s,.str nm.1,.int nm.2,.int 0]]).all (PV.pl 37)=true
  rw[List.all_append,h];rfl
def LfA(a:z_ PV):Prop:=∃(w:Str)(th:Nm)(v:Int),a=[.str w,pv th,.int v]/\(w="add" \/ w="choose" \/ w="put")
def DA(d:Dd):A_ Act->Prop
 |some a=>RX a/\d.act=jT a/\KdA a
 |none=>LfA d.act
theorem Kb.of(x:S1 h'):Kb a0 lf h h':=⟨λi o _ e=>x i o e,λi _ _ e=>x i _ e⟩
theorem S4{d:Dd}:vIx (dP d) (.int 2) h=.ok (.tup d.act) h:=by unfold dP;simp
theorem inT(x:Str)(h:PH):mG (.str x) (.tup [.str "make",.str "move",.str "drop"]) h=.ok (.bl (decide (x="make" \/ x="move" \/ x="drop"))) h:=by rw[pT,QZ,Uj rfl rfl];simp
theorem inB(x:Str)(h:PH):jD (.str x) (.tup [.str "back",.str "settle"]) h=.ok (.bl (!decide (x="back" \/ x="settle"))) h:=by rw[AL,K3,LZ rfl rfl];simp
theorem S5(a:Act):∃w r,jT a=.str w::r/\(w="make" \/ w="move" \/ w="drop")/\(w="make" ↔ ∃kd ho sp,a=.make kd ho sp):=by
 cases a with
 |make kd ho sp=>exact⟨_,_,rfl,.inl rfl,λ_=>⟨_,_,_,rfl⟩,λ_=>rfl⟩
 |move th ho sp=>exact⟨_,_,rfl,.inr (.inl rfl),λz=>absurd z (by decide +kernel),λ⟨_,_,_,z⟩=>q0N 0⟩
 |drop th=>exact⟨_,_,rfl,.inr (.inr rfl),λz=>absurd z (by decide +kernel),λ⟨_,_,_,z⟩=>q0N 0⟩
theorem UY(ha:∀kd ho sp,a≠.make kd ho sp)(p:Nm):(q0p p).map (·.kd)=(fnd (q0n a).1 p).map (·.kd):=by
 let put:∀{q:Nm}{r:Rc}{u st},q0p q=a_ r->(q0p p).map (·.kd)=(fnd (mH M q ⟨r.kd,u,st⟩) p).map (·.kd):=λ{q r u st} e=>by
  rw[mI];split
  ·rename_i z;rw[z,e];rfl
  ·rfl
 cases a with
 |make kd ho sp=>exact(ha _ _ _ rfl).elim
 |move th ho sp=>
  cases e:q0p th with
  |none=>rw[xZ e]
  |some r=>
   rw[AS e];split
   ·split
    ·rfl
    ·show put e
   ·rfl
 |drop th=>
  cases e:q0p th with
  |none=>rw[yA e]
  |some r=>rw[AU e];show put e
theorem S6{lt:Nat}(f:O_ 0)(T:BJ M)(hl:M.length<=100)(hL:L.length<=100)(hn:n<=100){d:Dd}(D:DA d (a_ a))(hm:∀kd ho sp,a=.make kd ho sp->q0p d.nm=b_)(Q:PV->PH->Prop)(k:∀v h',Kb a0 lf h h'->q1u (n+1) (heard M L d.nm a).1 (heard M L d.nm a).2.1->Q v h'):(dH [.ref l,dP d] h).W Q:=by
 let⟨ok,ea,ka⟩:=D;refine eD ?_;unfold kE;rw[aS];let mh:=bZ (mm:="hear") (n:=1) (tb:=iH) (ms:=aB (mV 1) aL) (δ:=[c_ l,a_ (dP d),b_,b_]) (h:=h) (h1:=h) (mo:=mUn (cW "tree") (mV 0)) (k:=lt) (f:=cY) (by simp[f.ft]) f.tr.ins tbT rfl;let ed:dP d=.tup [pv d.nm,sv d.seen,.tup (jT a)]:=by unfold dP;rw[ea]
 simp[mh];rw[ed];refine NL f.tr T.nr ⋯ ⋯ d.nm _ a ok _ λh1 t1 k1=>?_;rw[<-ed];rfl';rw[aS];simp[S4];rfl';let b1:=Kept.kb f k1;let⟨w,r,e0,_,hw⟩:=S5 a;let ew:vIx (.tup d.act) (.int 0) h1=.ok (.str w) h1:=by rw[ea,e0];simp
 rw[aS,fG];by_cases c:w="make"
 ·let⟨kd,ho,sp,rfl⟩:=hw.mp c;let ia:=hm kd ho sp rfl;let i1:atI d.act 1=a_ (.str kd):=by rw[ea];show lY (i:=1) rfl
  rw[AR]at t1 k⊢;cases ef:uX M ho sp with
  |false=>rw[if_neg yl];rw[ef,if_neg yl]at t1 k;let en:vEq (.str "idle") (.str "done") h1=.ok (.bl false) h1:=rfl;simp[ew,eqs,c];rfl';simp;show q0X b1 ((f.tree t1 k1 λ_=>rfl).more ⋯)
  |true=>
   rw[q0k 0];rw[ef,q0k 0]at t1 k;simp[ew,eqs,c];let⟨kvs,tl,lk,v⟩:=f.lv;let d1:l≠lm:=λz=>by subst z;show DU f.tr.made f.fo
   let d2:l≠lf:=λz=>by subst z;have:=f.tr.fail;rw[f.fo]at this;cases this
   let d3:ll≠lf:=λz=>by subst z;show DT tl f.tr.fail
   let tj:=k1 _ _ d1 d2 f.fo;let wb:cO h1 ll=a_ kvs:=rP tl λo ho=>k1 _ _ f.ne d3 ho;let qx:=ze f.bl (k1.len t1);let ma:=bZ (mm:="add_leaf") (n:=2) (tb:=rO) (ms:=aB (D_ (mV 1) (p_ 0)) (aB (D_ (mV 3) (p_ 1)) aL)) (δ:=[c_ l,a_ (dP d),a_ (.str "done"),a_ (.tup d.act)]) (h:=h1) (h1:=h1) (mo:=mV 0) (k:=l) (f:=dR) (by simp) tj (by simp[rO]) rfl;simp[ma,dP0,i1];refine XA tj wb ⋯ qx f.hi.2.2.2.2 λh2 ax fr len t2 lk' o9 own=>?_;rfl';simp;let d4:l≠ll:=λz=>by subst z;show DU tl f.fo
   let d5:lt≠ll:=λz=>by subst z;show DU tl f.tr.ins
   let d6:lf≠ll:=λz=>d3 z.symm;refine q0X (b1.trans ⟨λi o hi e=>fr i o (by have:=f.lo;omega) e,λi xs hi e=>fr i _ (λz=>by subst z;show DT wb e) e⟩) ⟨q0M d4 tj,⟨q0M d5 t1.ins,rP t1.made λo ho=>q0M (y1o f.ne) ho,q0M d6 t1.fail⟩,f.lo,f.hi,f.ne,ze qx len,ax,t2,⋯,λp=>?_⟩;let kp:∀kd c,oC h b n kd c->oC h2 b (n+1) kd c:=λkd c z=>(z.more (yg _) (y09 n)).keep λi o hi e=>q0M (by have:=f.hi;omega) (k1 _ _ (by have:=f.hi;omega) (by have:=f.hi;omega) e);rw[mI]
   by_cases z:p=d.nm
   ·subst z;rw[q0k 0]
    change if pD kd=true then ∃c,bB ax (pv d.nm)=c_ c/\oC h2 b (n+1) kd c else bB ax (pv d.nm)=b_
    let vn:=v d.nm;rw[ia]at vn;split
    ·rename_i q;rw[if_pos q]at own;let⟨c,g1,g2⟩:=own;show⟨c,g1,g2.more (yg _) (y9 _)⟩
    ·rename_i q;rw[if_neg q]at own;show own.trans vn
   ·rw[if_neg z];show(v p).imp rfl (o9 p z) kp
 ·simp[ew,eqs,c];rfl';simp;show q0X b1 ((f.tree t1 k1 (UY λkd ho sp z=>c (hw.mpr ⟨kd,ho,sp,z⟩))).more ⋯)
def cvB(S:Seen)(nm:Nm):Bool:=match look S nm.1 with
 |some n=>decide (nm.2<=n)
 |none=>false
variable{R:z_ (Nm×Int)}{x0:z_ (Str×PV)}
theorem FS.setL{lt:Nat}(f:O_ 0)(hb:n+1<=1000)(x:S1 h1)(ek:LsC kd cn)(bc:b<=c)(g:h[c]?=a_ (.ins cn x0)){s:Nat}(bs:b<=s)(gs:h1[s]?=a_ (.lst (R.map rwN)))(lR:R.length<=n+1):FS (h1.set c (.ins cn [("standing",.ref s)])) a0 l lt lm lf ll b (n+1) M L/\Kb a0 lf h (h1.set c (.ins cn [("standing",.ref s)])):=by
 let⟨kvs,tl,lk,v⟩:=f.lv;let fr:∀(i:Nat) o,i<b->h[i]?=a_ o->(h1.set c (.ins cn [("standing",.ref s)]))[i]?=a_ o:=λi o hi e=>bQ (x _ _ e) ⋯;let hi:=f.hi;let ab:a0<=b:=by have:=f.lo;omega
 refine⟨⟨q0M hi.1 f.fo,⟨q0M hi.2.1 f.tr.ins,rP f.tr.made λo ho=>q0M hi.2.2.1 ho,q0M hi.2.2.2.1 f.tr.fail⟩,f.lo,f.hi,f.ne,by rw[y0k];show ze f.bl x.len,kvs,rP tl λo ho=>q0M hi.2.2.2.2 ho,⋯,λp=>(v p).imp rfl rfl λt7 c' z=>?_⟩,λi o hi e=>fr i o ⋯ e,λi xs hi e=>bQ (x _ _ e) (λz=>by subst z;rw[g]at e;cases e)⟩;show((z.more (yg _) (y09 n)).keep λi o _ e=>x _ _ e).setL ek (x _ _ g) bs gs lR
theorem FS.setC{lt:Nat}(f:O_ 0)(bc:b<=c)(g:h[c]?=a_ (.ins "Count" x0))(j:Int):FS (h.set c (.ins "Count" [("total",.int j)])) a0 l lt lm lf ll b (n+1) M L/\Kb a0 lf h (h.set c (.ins "Count" [("total",.int j)])):=by
 let⟨kvs,tl,lk,v⟩:=f.lv;let fr:∀(i:Nat) o,i<b->h[i]?=a_ o->(h.set c (.ins "Count" [("total",.int j)]))[i]?=a_ o:=λi o hi e=>bQ e ⋯;let hi:=f.hi;let ab:a0<=b:=by have:=f.lo;omega
 refine⟨⟨q0M hi.1 f.fo,⟨q0M hi.2.1 f.tr.ins,rP f.tr.made λo ho=>q0M hi.2.2.1 ho,q0M hi.2.2.2.1 f.tr.fail⟩,f.lo,f.hi,f.ne,by rw[y0k];show f.bl,kvs,rP tl λo ho=>q0M hi.2.2.2.2 ho,⋯,λp=>(v p).imp rfl rfl λt7 c' z=>?_⟩,λi o hi e=>fr i o ⋯ e,λi xs hi e=>bQ e (λz=>by subst z;rw[g]at e;cases e)⟩;show(z.more (yg _) (y09 n)).setC g j
variable{v:Int}{w:Str}
theorem S7{lt:Nat}(f:O_ 0)(hn:n<=100){d:Dd}(sl:d.seen.length<=100)(ea:d.act=[.str w,pv th,.int v])(F:oC h b n kd c)(hw:(w="add" /\ kd="count")\/(w="choose" /\ kd="choice")\/(w="put" /\ kd="bag")):∃cn fs fn,h[c]?=a_ (.ins cn fs)/\fs.lookup ("hear" : Str)=b_/\iH cn=a_ fn/\
  ∀Q:PV->PH->Prop,(∀h',Kb a0 lf h h'->q1u (n+1) M L->Q .non h')->(fn [.ref c,dP d] h).W Q:=by
 let ed:dP d=.tup [pv d.nm,sv d.seen,.tup [.str w,pv th,.int v]]:=by unfold dP;rw[ea]
 let n1:¬ (yi "count")=yi "choice" := by decide +kernel
 let n2:¬ (yi "count")=yi "bag" := by decide +kernel
 let n3:¬ (yi "count")=yi "text" := by decide +kernel
 let n4:¬ (yi "choice")=yi "text" := by decide +kernel
 let n5:¬ (yi "bag")=yi "text" := by decide +kernel
 let n6:¬ (yi "choice")=yi "bag" := by decide +kernel
 cases F with
 |cnt i e bc g=>
  rcases hw with⟨rfl,_⟩|⟨_,z⟩|⟨_,z⟩
  ·refine⟨_,_,dS,g,rfl,tbC,λQ k=>?_⟩;refine eD ?_;unfold tV;rw[aS,ed];simp;rfl';let e1:=AJ g;let e2:=fH (f:="total") (p:=.int (i+v)) g (by simp);let l1:y2B ("total" : Str) [(("total" : Str),PV.int i)]=d_ i:=rfl;simp[Ri,e1,Uy,l1,e2];let⟨q1,q2⟩:=f.setC bc g (i+v);show k _ q2 q1
  ·show(n1 (e.symm.trans z)).elim
  ·show(n2 (e.symm.trans z)).elim
 |lst cn s R e bc g bs gs ln=>
  rcases hw with⟨_,z⟩|⟨rfl,z⟩|⟨rfl,z⟩
  ·rcases e with⟨e,_⟩|⟨e,_⟩
   ·show(n1 (z.symm.trans e)).elim
   ·show(n2 (z.symm.trans e)).elim
  ·rcases e with⟨e,rfl⟩|⟨e,_⟩
   ·refine⟨_,_,dB,g,rfl,tbH,λQ k=>?_⟩;refine eD ?_;unfold rY;rw[aS,ed];simp;rfl';rw[fG];simp;rw[aS];let fs:cW "standing" (.ref c) h=.ok (.ref s) h:=iV g rfl;let hc:=sL (m:=mUn (cW "standing") (mV 0)) (js:=[b_,a_ 3]) (tg:=gN 0) (tst:=vL (cJ (jB 2 qI (aB (mV 1) (aB (D_ (mV 0) (p_ 0)) aL))))) (elt:=mV 0) (δ:=[c_ c,a_ (.tup [pv d.nm,sv d.seen,.tup [.str "choose",pv th,.int v]]),a_ (pv d.nm),a_ (sv d.seen),a_ (.tup [.str "choose",pv th,.int v]),b_]) (h:=h) (h1:=h) (n:=s) (ys:=R) (emb:=rwN)
     (λr=>if(cvB d.seen r.1)=true then b_ else a_ (rwN r)) (by simp[fs]) gs ⋯
     (λr hr=>⟨[a_ (rwN r),a_ (sv d.seen)],by simp[nY],λh' _=>by
      let i0:vIx (rwN r) (.int 0) h'=.ok (pv r.1) h':=by unfold rwN;simp
      let cv:qI [sv d.seen,pv r.1] h'=.ok (.bl (cvB d.seen r.1)) h':=Pb d.seen r.1 h';cases hb:cvB d.seen r.1 <;> rw[hb]at cv <;> simp[i0,cv]⟩)
    let ef:∀R:z_ (Nm×Int),R.filterMap (λr=>if(cvB d.seen r.1)=true then b_ else a_ (rwN r))=(R.filter λr=>!(cvB d.seen r.1)).map rwN:=λR=>by
     induction R with
     |nil=>rfl
     |cons r R ih=>rw[y14,ih,List.filter_cons];cases cvB d.seen r.1 <;> simp
    rw[ef]at hc;let lU:(R.filter λr=>!(cvB d.seen r.1)).length<=R.length:=List.length_filter_le _ _;generalize R.filter (λr=>!(cvB d.seen r.1))=U at hc lU;let gU:(h++[MO.lst (U.map rwN)])[h.length]?=a_ (.lst (U.map rwN)):=aU;let xU:S1 (h++[MO.lst (U.map rwN)]):=H_ _;let bl:=f.bl;generalize h.length=lu at hc gU bl;generalize h++[MO.lst (U.map rwN)]=hU at hc gU xU;simp[hc];rfl';let gN:(hU++[MO.lst [rwN (d.nm,v)]])[hU.length]?=a_ (.lst [rwN (d.nm,v)]):=aU;let xN:Ext hU (hU++[MO.lst [rwN (d.nm,v)]]):=H_ _;let eN:hU++[MO.lst [.tup [pv d.nm,.int v]]]=hU++[MO.lst [rwN (d.nm,v)]]:=rfl;simp;rw[eN];let pl:=BC (xN _ _ gU) gN (by simp;omega);let lN:=xN.len;let bU:=(xt.mp gU).1;generalize hU.length=ln2 at pl gN lN bU;generalize hU++[MO.lst [rwN (d.nm,v)]]=hV at pl gN xN lN;let eP:U.map rwN++[rwN (d.nm,v)]=(U++[(d.nm,v)]).map rwN:=by simp
    rw[eP]at pl;let lP:(U++[(d.nm,v)]).length<=n+1:=by simp;omega
    generalize U++[(d.nm,v)]=P at pl lP;let gP:(hV++[MO.lst (P.map rwN)])[hV.length]?=a_ (.lst (P.map rwN)):=aU;let xP:Ext hV (hV++[MO.lst (P.map rwN)]):=H_ _;simp[pl];let xx:=(xU.trans xN).trans xP;refine⟨_,fH (xx _ _ g) (by simp),?_⟩;let⟨q1,q2⟩:=f.setL ⋯ xx (.inl ⟨e,rfl⟩) bc g (s:=hV.length) (R:=P) ⋯ gP lP;show k _ q2 q1
   ·show(n6 (z.symm.trans e)).elim
  ·rcases e with⟨e,_⟩|⟨e,rfl⟩
   ·show(n6 (e.symm.trans z)).elim
   ·refine⟨_,_,gE,g,rfl,tbB,λQ k=>?_⟩;refine eD ?_;unfold zO;rw[aS,ed];simp;rfl';rw[fG];let fs:∀{h'},S1 h'->cW "standing" (.ref c) h'=.ok (.ref s) h':=λx=>iV (x _ _ g) rfl;let gN:(h++[MO.lst [rwN (d.nm,v)]])[h.length]?=a_ (.lst [rwN (d.nm,v)]):=aU;let xN:S1 (h++[MO.lst [rwN (d.nm,v)]]):=H_ _;let eN:h++[MO.lst [.tup [pv d.nm,.int v]]]=h++[MO.lst [rwN (d.nm,v)]]:=rfl;simp[fs (Ext.refl _)];rw[eN];let pl:=BC (xN _ _ gs) gN (by simp;omega);let bl:=f.bl;let lN:=xN.len;generalize h.length=ln2 at pl gN lN bl;generalize h++[MO.lst [rwN (d.nm,v)]]=hV at pl gN xN lN;let eP:R.map rwN++[rwN (d.nm,v)]=(R++[(d.nm,v)]).map rwN:=by simp
    rw[eP]at pl;let lP:(R++[(d.nm,v)]).length<=n+1:=by simp;omega
    generalize R++[(d.nm,v)]=P at pl lP;let gP:(hV++[MO.lst (P.map rwN)])[hV.length]?=a_ (.lst (P.map rwN)):=aU;let xP:Ext hV (hV++[MO.lst (P.map rwN)]):=H_ _;simp[pl];let xx:=xN.trans xP;refine⟨_,fH (xx _ _ g) (by simp),?_⟩;let⟨q1,q2⟩:=f.setL ⋯ xx (.inr ⟨e,rfl⟩) bc g (s:=hV.length) (R:=P) ⋯ gP lP;show k _ q2 q1
 |txt s m k t e bc g b4 gs gk gm gt=>
  rcases hw with⟨_,z⟩|⟨_,z⟩|⟨_,z⟩
  ·show(n3 (z.symm.trans e)).elim
  ·show(n4 (z.symm.trans e)).elim
  ·show(n5 (z.symm.trans e)).elim
noncomputable def st1(M:Md)(L:z_ Nm)(nm:Nm):A_ Act->Md×z_ Nm
 |some a=>((q0n a).1,(q0n a).2.1)
 |none=>(M,L)
theorem XB(h:PH):iI [.str "add"] h=.ok (.str "count") h:=rfl
theorem XC(h:PH):iI [.str "choose"] h=.ok (.str "choice") h:=by
 let n1:¬ (yi "add")=yi "choose" := by decide +kernel
 let w:(iI [.str "choose"] h).W λq h'=>q=.str "choice" /\ h'=h:=by refine eD ?_;unfold tX;simp[vGd,CS,gdV,n1]
 let⟨q,h',e,rfl,rfl⟩:=pH w;show e
theorem XD(h:PH):iI [.str "put"] h=.ok (.str "bag") h:=by
 let n1:¬ (yi "add")=yi "put" := by decide +kernel
 let n2:¬ (yi "choose")=yi "put" := by decide +kernel
 let w:(iI [.str "put"] h).W λq h'=>q=.str "bag" /\ h'=h:=by refine eD ?_;unfold tX;simp[vGd,CS,gdV,n1,n2]
 let⟨q,h',e,rfl,rfl⟩:=pH w;show e
theorem VV(hw:w="add" \/ w="choose" \/ w="put"):¬ (w="make" \/ w="move" \/ w="drop")/\¬ (w="back" \/ w="settle"):=by rcases hw with rfl|rfl|rfl <;> decide +kernel
theorem S8{lt:Nat}(f:O_ 0)(T:BJ M)(hl:M.length<=100)(hL:L.length<=100)(hn:n<=100){d:Dd}(sl:d.seen.length<=100){x:A_ Act}(D:DA d x)(hm:∀kd ho sp,x=a_ (.make kd ho sp)->q0p d.nm=b_)(Q:PV->PH->Prop)(k:∀v h',Kb a0 lf h h'->q1u (n+1) (st1 M L d.nm x).1 (st1 M L d.nm x).2->Q v h'):(dX [.ref l,dP d] h).W Q:=by
 refine eD ?_;unfold qL;rw[aS];simp[S4];rfl';rw[aS,fG];cases x with
 |some a=>
  let⟨w,r,e0,w3,_⟩:=S5 a;let ew:atI d.act 0=a_ (.str w):=by rw[D.2.1,e0];show lY (i:=0) rfl
  let it:=inT w h;rw[decide_eq_true w3]at it;let mh:=bZ (mm:="hear_tree") (n:=1) (tb:=pM) (ms:=aB (mV 1) aL) (δ:=[c_ l,a_ (dP d),a_ (.tup d.act)]) (h:=h) (h1:=h) (mo:=mV 0) (k:=l) (f:=dH) (by simp) f.fo (by simp[pM]) rfl;simp[-pT,ew,it,mh];show S6 f T hl hL hn D (λkd ho sp z=>hm kd ho sp (by rw[z])) _ k
 |none=>
  let⟨w,th,v,ea,w3⟩:=(show LfA d.act from D)
  let⟨m1,m2⟩:=VV w3;let ew:atI d.act 0=a_ (.str w):=by rw[ea];show lY (i:=0) rfl
  let et:atI d.act 1=a_ (pv th):=by rw[ea];show lY (i:=1) rfl
  let it:=inT w h;rw[decide_eq_false m1]at it;let ib:=inB w h;rw[decide_eq_false m2]at ib;simp[-pT,ew,it];rfl';rw[aS,fG];let mk:=bZ (mm:="kind_of") (n:=1) (tb:=jE) (ms:=aB (D_ (mV 2) (p_ 1)) aL) (δ:=[c_ l,a_ (dP d),a_ (.tup d.act)]) (h:=h) (h1:=h) (mo:=mUn (cW "tree") (mV 0)) (k:=lt) (f:=dF) (by simp[f.ft]) f.tr.ins (by simp[jE]) rfl;obtain⟨kd,kf,hw,kl,km⟩:∃kd:Str,iI [.str w] h=.ok (.str kd) h/\((w="add" /\ kd="count")\/(w="choose" /\ kd="choice")\/(w="put" /\ kd="bag"))/\pD kd=true/\kd≠"map" := by
   rcases w3 with rfl|rfl|rfl
   ·show⟨_,XB h,.inl ⟨rfl,rfl⟩,by decide +kernel,by decide +kernel⟩
   ·show⟨_,XC h,.inr (.inl ⟨rfl,rfl⟩),by decide +kernel,by decide +kernel⟩
   ·show⟨_,XD h,.inr (.inr ⟨rfl,rfl⟩),by decide +kernel,by decide +kernel⟩
  let ne:=QN (h:=h) (F4 M th) (y:=.str kd) rfl;simp[-AL,ew,ib];rw[aS,fG];by_cases c:wD M th=.str kd
  ·let dn:(!decide (wD M th=.str kd))=false:=by simp[c]
   rw[dn]at ne;simp[mk,et,DS f.tr,ew,kf,ne];rfl';obtain⟨r,er,ek⟩:∃r,q0p th=a_ r/\r.kd=kd:=by
    unfold wD at c;split at c
    ·show(km (PV.str.inj c).symm).elim
    ·split at c
     ·rename_i r e;show⟨r,e,PV.str.inj c⟩
     ·cases c
   let⟨kvs,tl,lk,lv⟩:=f.lv;let lt':=lv th;rw[er]at lt';let lt':if pD r.kd=true then ∃c,q0H (pv th)=c_ c/\oC h b n r.kd c else bB kvs (pv th)=b_:=lt';rw[ek,if_pos kl]at lt';let⟨c,g1,g2⟩:=lt';let⟨cn,fs,fn,gc,nl,tb,W⟩:=S7 f hn sl ea g2 hw;let va:vAt (.ref ll) (pv th) h=.ok (.ref c) h:=RT tl rfl g1;let mm:=bZ (mm:="hear") (n:=1) (tb:=iH) (ms:=aB (mV 1) aL) (δ:=[c_ l,a_ (dP d),a_ (.tup d.act)]) (h:=h) (h1:=h) (mo:=D_ (mUn (cW "leaves") (mV 0)) (D_ (mV 2) (p_ 1))) (k:=c) (f:=fn) (by simp[f.fl,et,va]) gc tb nl;simp[mm];refine W _ λh' kb ja=>?_;rfl';simp;show q0X kb ja
  ·let dn:(!decide (wD M th=.str kd))=true:=by simp[c]
   rw[dn]at ne;simp[mk,et,DS f.tr,ew,kf,ne];show q0X (Kb.of (Ext.refl _)) (f.more ⋯)
structure PI(s:Md×z_ Nm)(P:z_ Dd):Prop where
 T:BJ s.1
 lM:s.1.length<=P.length
 lL:s.2.length<=P.length
 nm:∀p,(fnd s.1 p).isSome=true->∃e∈P,e.nm=p
 nd:(s.1.map (·.1)).Nodup
 kd:∀x∈s.1,Pc x.2.kd/\x.2.st.pl 38=true
theorem PI.nil:PI ([],[]) []:=⟨BJ.nil,yg _,yg _,(λp h=>nomatch h),List.nodup_nil,λx h=>nomatch h⟩
theorem S9{x:Nm×Rc}(h:x∈mH M p r):x∈M\/x=(p,r):=by
 unfold mH at h;split at h
 ·let⟨y,hy,e⟩:=y6.mp h;by_cases z:y.1=p
  ·rw[if_pos z]at e;show .inr (by rw[<-e,z])
  ·rw[if_neg z]at e;show .inl (e▸hy)
 ·rcases zf.mp h with h|h
  ·show .inl h
  ·show .inr (y0.mp h)
theorem UZ(h:(M.map (·.1)).Nodup):((mH M p r).map (·.1)).Nodup:=by
 rw[Pa];split
 ·show h
 ·rename_i c;rw[y1c];show⟨h,by simp,λa ha b hb e=>c (by rw[y0.mp hb]at e;show e▸ha)⟩
variable{P:z_ Dd}{s:Md×z_ Nm}
theorem PI.put{d:Dd}(i:PI s P)(T:BJ (mH s.1 p r))(hp:p=d.nm\/(fnd s.1 p).isSome=true)(kd:Pc r.kd/\r.st.pl 38=true):PI (mH s.1 p r,s.2) (P++[d]):=by
 refine⟨T,?_,?_,λq hq=>?_,UZ i.nd,λx hx=>?_⟩
 ·have:=RS s.1 p r;have:=i.lM;simp;omega
 ·have:=i.lL;simp;omega
 ·let hq:(fnd (mH s.1 p r) q).isSome=true:=hq;rw[mI]at hq;by_cases z:q=p
  ·rcases hp with e|e
   ·show⟨d,by simp,by rw[z,e]⟩
   ·let⟨e,h1,h2⟩:=i.nm p e;show⟨e,z8 _ h1,by rw[h2,z]⟩
  ·rw[if_neg z]at hq;let⟨e,h1,h2⟩:=i.nm q hq;show⟨e,z8 _ h1,h2⟩
 ·rcases S9 hx with hx|rfl
  ·show i.kd x hx
  ·show kd
theorem PI.same{d:Dd}(i:PI s P)(hL:L.length<=s.2.length+1):PI (s.1,L) (P++[d]):=by
 refine⟨i.T,?_,?_,λq hq=>?_,i.nd,i.kd⟩
 ·have:=i.lM;simp;omega
 ·have:=i.lL;simp;omega
 ·let⟨e,h1,h2⟩:=i.nm q hq;show⟨e,z8 _ h1,h2⟩
theorem PI.step(i:PI s P){d:Dd}{x:A_ Act}(D:DA d x)(nr:d.nm≠root)(new:∀e∈P,e.nm≠d.nm):fnd s.1 d.nm=b_/\PI (st1 s.1 s.2 d.nm x) (P++[d]):=by
 let hn:fnd s.1 d.nm=b_:=by
  cases e:fnd s.1 d.nm with
  |none=>rfl
  |some r=>let⟨z,h1,h2⟩:=i.nm d.nm (by rw[e];rfl);show(new z h1 h2).elim
 refine⟨hn,?_⟩;cases x with
 |none=>exact i.same (y09 _)
 |some a=>
  let⟨_,_,ka⟩:=D;let TT:=i.T.heard (L:=s.2) (nm:=d.nm) (a:=a) λkd ho sp _=>⟨hn,nr⟩
  change PI ((heard s.1 s.2 d.nm a).1,(heard s.1 s.2 d.nm a).2.1) (P++[d])
  cases a with
  |make kd ho sp=>
   rw[AR]at TT⊢;split
   ·rename_i c;rw[if_pos c]at TT;show i.put TT (.inl rfl) ⟨ka.1,KC ka.2 _⟩
   ·show i.same (y09 _)
  |move th ho sp=>
   cases e:fnd s.1 th with
   |none=>rw[xZ e];show i.same (y09 _)
   |some r=>
    rw[AS e]at TT⊢;split
    ·rename_i c;rw[if_pos c]at TT;split
     ·show i.same (by simp)
     ·rename_i c2;rw[if_neg c2]at TT;show i.put TT (.inr (by rw[e];rfl)) ⟨(i.kd _ (NJ e)).1,KC ka _⟩
    ·show i.same (y09 _)
  |drop th=>
   cases e:fnd s.1 th with
   |none=>rw[yA e];show i.same (y09 _)
   |some r=>rw[AU e]at TT⊢;show i.put TT (.inr (by rw[e];rfl)) ⟨(i.kd _ (NJ e)).1,rfl⟩
noncomputable def hW(f:Dd->A_ Act)(os:z_ Dd):Md×z_ Nm:=os.foldl (λs d=>st1 s.1 s.2 d.nm (f d)) ([],[])
variable{os:z_ Dd}
theorem F5{f:Dd->A_ Act}{d:Dd}:hW f (os++[d])=st1 (hW f os).1 (hW f os).2 d.nm (f d):=by unfold hW;rw[List.foldl_append];rfl
structure DOk(f:Dd->A_ Act)(os:z_ Dd):Prop where
 da:∀d∈os,DA d (f d)/\d.nm≠root/\Wf d
 nd:(os.map (·.nm)).Nodup
 ln:os.length<=60
theorem F6{f:Dd->A_ Act}(O:DOk f os)(q:Nat):PI (hW f (q1d 0)) (q1d 0):=by
 induction q with
 |zero=>exact PI.nil
 |succ q ih=>
  by_cases c:q<os.length
  ·let e:os.take (q+1)=q1d 0++[os[q]]:=by rw[List.take_add_one,y10 c];rfl
   rw[e,F5];let hd:=O.da os[q] (zp c);let nd:=O.nd;rw[<-List.take_append_drop (q+1) os,e,y02,y02,y1c,y1c]at nd;show(ih.step hd.1 hd.2.1 λz hz=>nd.1.2.2 z.nm (y6.mpr ⟨z,hz,rfl⟩) os[q].nm (by simp)).2
  ·rw[List.take_of_length_le ⋯]at ih⊢;show ih
theorem NQ{f:Dd->A_ Act}(O:DOk f os){q:Nat}{d:Dd}(e:os[q]?=a_ d):fnd (hW f (q1d 0)).1 d.nm=b_/\os.take (q+1)=q1d 0++[d]:=by
 let c:=(xt.mp e).1;let e1:os.take (q+1)=q1d 0++[d]:=by rw[List.take_add_one,e];rfl
 let hd:=O.da d (zi e);let nd:=O.nd;rw[<-List.take_append_drop (q+1) os,e1,y02,y02,y1c,y1c]at nd;show⟨((F6 O q).step hd.1 hd.2.1 λz hz=>nd.1.2.2 z.nm (y6.mpr ⟨z,hz,rfl⟩) d.nm (by simp)).1,e1⟩
theorem IR(e:h[n]?=a_ (.dK [])):cO h n=a_ []:=by unfold cO;rw[e]
variable{m:Me}{tg:Mg}
theorem S'(e:m δ h=.ok (.ref n) h1)(g:h1[n]?=a_ (.lst []))(k:E.nx δ h1):(rD (dM m) tg body δ h).W E:=By (λ_ δ' h'=>δ'=δ/\h'=h1) e g ⟨rfl,rfl⟩ (λ_ _ _ _ i=>i.2▸g) (λq x _ _ hx=>by simp at hx) λ_ _ i=>i.1▸i.2▸k
theorem Sa{la lb:Nat}{x y:PV}(g:h[l]?=a_ (.ins "Tree" [("made",x),("failed",y)]))(ga:h[la]?=a_ (.lst []))(gb:h[lb]?=a_ (.lst []))(k:∀lm lf h',(∀(i:Nat) o,i≠l->h[i]?=a_ o->h'[i]?=a_ o)->h.length<=lm->h.length<=lf->bK h' l lm lf [] []->Q .non h'):(lI [.ref l,.ref la,.ref lb] h).W Q:=by
 let na:la≠l:=λz=>by subst z;rw[g]at ga;cases ga
 let nb:lb≠l:=λz=>by subst z;rw[g]at gb;cases gb
 let hl:=(xt.mp g).1;refine eD ?_;unfold vX;rw[aS];simp;let x1:S1 (h++[MO.dK []]):=H_ _;let gK:(h++[MO.dK []])[h.length]?=a_ (.dK []):=aU;refine⟨_,fH (x1 _ _ g) (by simp),?_⟩;let qc:∀(i:Nat) o,i≠l->h[i]?=a_ o->((h++[MO.dK []]).set l (MO.ins "Tree" (iD "made" (.ref h.length) [("made",x),("failed",y)])))[i]?=a_ o:=λi o hi e=>bQ (x1 _ _ e) (y1o hi);let g2:((h++[MO.dK []]).set l (MO.ins "Tree" (iD "made" (.ref h.length) [("made",x),("failed",y)])))[l]?=a_ (.ins "Tree" [("made",.ref h.length),("failed",y)]):=eM (x1 _ _ g);let mw:((h++[MO.dK []]).set l (MO.ins "Tree" (iD "made" (.ref h.length) [("made",x),("failed",y)])))[h.length]?=a_ (.dK []):=bQ gK ⋯;generalize (h++[MO.dK []]).set l (MO.ins "Tree" (iD "made" (.ref h.length) [("made",x),("failed",y)]))=hA at qc g2 mw;let lA:=(xt.mp mw).1;rfl';rw[aS];refine S' (n:=la) (h1:=hA) (by simp) (qc _ _ na ga) ?_;rfl';simp[nZ (qc _ _ nb gb)];let x3:Ext hA (hA++[MO.lst []]):=H_ _;refine⟨_,fH (x3 _ _ g2) (by simp),?_⟩;show k h.length hA.length _ (λi o hi e=>bQ (x3 _ _ (qc i o hi e)) (y1o hi)) (yg _) ⋯ ⟨eM (x3 _ _ g2),IR (bQ (x3 _ _ mw) ⋯),bQ aU ⋯⟩
variable{lr lx:Nat}
theorem Sb{h0:PH}(x0:Ext h0 h)(g:h[h0.length]?=a_ (.ins "Folding" []))(gr:h[lr]?=a_ (.lst []))(gx:h[lx]?=a_ (.lst []))(k:∀lt lm lf ll b h',Ext h0 h'->FS h' h0.length h0.length lt lm lf ll b 0 [] []->Q .non h'):(fK [.ref h0.length,.tup [.ref lr,.ref lx]] h).W Q:=by
 let nr:lr≠h0.length:=λz=>by subst z;rw[g]at gr;cases gr
 let nx:lx≠h0.length:=λz=>by subst z;rw[g]at gx;cases gx
 let hl:=(xt.mp g).1;refine eD ?_;unfold kQ;rw[aS];simp;rfl';let⟨h1,e1,t1,x1⟩:=NN [c_ h0.length,a_ (.tup [.ref lr,.ref lx]),c_ lr,c_ lx,b_,b_,b_,b_,b_] h;rw[aS];simp[-fI,e1];refine⟨_,fH (x1 _ _ g) (by simp),?_⟩;let xA:Ext h0 (h1.set h0.length (MO.ins "Folding" (iD "tree" (.ref h.length) []))):=(x0.trans x1).setN (yg _);let fr:∀(i:Nat) o,i≠h0.length->h1[i]?=a_ o->(h1.set h0.length (MO.ins "Folding" (iD "tree" (.ref h.length) [])))[i]?=a_ o:=λi o hi e=>bQ e (y1o hi);let f2:(h1.set h0.length (MO.ins "Folding" (iD "tree" (.ref h.length) [])))[h0.length]?=a_ (.ins "Folding" [("tree",.ref h.length)]):=eM (x1 _ _ g);let t2:=fr _ _ ⋯ t1.ins;let r2:=q0M nr (x1 _ _ gr);let y2:=q0M nx (x1 _ _ gx);let l1:=x1.len;generalize vh:h1.set h0.length (MO.ins "Folding" (iD "tree" (.ref h.length) []))=h2 at xA f2 t2 r2 y2;let l2:h2.length=h1.length:=by rw[<-vh,y0k]
 clear vh fr;let l3:=(xt.mp t2).1;rfl';rw[aS];let hc:=sL (m:=mV 2) (js:=[b_]) (tg:=gN 0) (tst:=oI) (elt:=mSl (mV 0) rC (mP (p_ 4))) (δ:=[c_ h0.length,a_ (.tup [.ref lr,.ref lx]),c_ lr,c_ lx,b_,b_,b_,b_,b_]) (h:=h2) (h1:=h2) (n:=lr) (ys:=([]:z_ PV)) (emb:=id) (λt=>b_) (by simp) r2 (by simp) (λt ht=>nomatch ht);let x3:Ext h2 (h2++[MO.lst []]):=H_ _;let r3:(h2++[MO.lst []])[h2.length]?=a_ (.lst []):=aU;let hc:gO [b_] (dM (mV 2)) (gN 0) oI (mSl (mV 0) rC (mP (p_ 4))) [c_ h0.length,a_ (.tup [.ref lr,.ref lx]),c_ lr,c_ lx,b_,b_,b_,b_,b_] h2=.ok (.ref h2.length) (h2++[MO.lst []]):=hc;generalize h2.length=l4 at hc r3 l2 l3;generalize h2++[MO.lst []]=h3 at hc r3 x3;let l5:=(xt.mp r3).1;let mf:=bZ (mm:="fill") (n:=2) (tb:=DM) (ms:=aB (gO [b_] (dM (mV 2)) (gN 0) oI (mSl (mV 0) rC (mP (p_ 4)))) (aB (mV 3) aL)) (δ:=[c_ h0.length,a_ (.tup [.ref lr,.ref lx]),c_ lr,c_ lx,b_,b_,b_,b_,b_]) (h:=h2) (h1:=h2) (mo:=mUn (cW "tree") (mV 0)) (k:=h.length) (f:=lI) (by have:cW "tree" (.ref h0.length) h2=.ok (.ref h.length) h2:=iV f2 rfl;simp[this]) t2 (by simp[DM]) rfl;rw[YX,mf];simp[hc];refine Sa (x3 _ _ t2) r3 (x3 _ _ y2) λlm lf h4 k4 lm4 lf4 t4=>?_;let xn:=k4 _ _ ⋯ (x3 _ _ f2);let x4:Ext h0 h4:=λi o e=>k4 i o (by have:=(xt.mp e).1;omega) ((xA.trans x3) _ _ e);let r4:=k4 _ _ (by intro z;subst z;rw[t2]at r2;cases r2) (x3 _ _ r2);let b4:=(xt.mp t4.fail).1;let⟨o,ho,_,hho⟩:=fU t4.made;let c4:=(xt.mp ho).1;let d4:=(xt.mp t4.ins).1;let x34:=x3.len;rfl';rw[aS];simp;let x5:Ext h4 (h4++[MO.dK []]):=H_ _;refine⟨_,fH (x5 _ _ xn) (by simp),?_⟩;let ik:∀(i:Nat) o,i≠h0.length->(h4++[MO.dK []])[i]?=a_ o->((h4++[MO.dK []]).set h0.length (MO.ins "Folding" (iD "leaves" (.ref h4.length) [("tree",.ref h.length)])))[i]?=a_ o:=λi o hi e=>bQ e (y1o hi);let q6:FS ((h4++[MO.dK []]).set h0.length (MO.ins "Folding" (iD "leaves" (.ref h4.length) [("tree",.ref h.length)]))) h0.length h0.length h.length lm lf h4.length (h4.length+1) 0 [] []:=by refine⟨eM (x5 _ _ xn),⟨ik _ _ ⋯ (x5 _ _ t4.ins),hho _ (ik _ _ ⋯ (x5 _ _ ho)),ik _ _ ⋯ (x5 _ _ t4.fail)⟩,⟨⋯,⋯,⋯,⋯,⋯⟩,⟨⋯,⋯,⋯,⋯,⋯⟩,⋯,by simp,[],IR (ik _ _ ⋯ aU),by simp,λp=>rfl⟩
 let xF:Ext h0 ((h4++[MO.dK []]).set h0.length (MO.ins "Folding" (iD "leaves" (.ref h4.length) [("tree",.ref h.length)]))):=(x4.trans x5).setN (yg _);let r6:=ik _ _ nr (x5 _ _ r4);generalize (h4++[MO.dK []]).set h0.length (MO.ins "Folding" (iD "leaves" (.ref h4.length) [("tree",.ref h.length)]))=h6 at q6 xF r6;rfl';refine S' (n:=lr) (h1:=h6) (by simp) r6 ?_;show q0X _ _ _ _ xF q6
theorem Mv(e:cO h n=a_ kvs):∃o,h[n]?=a_ o/\ES (a_ o)=true/\qG o=a_ (kvs.map λkv=>.tup [kv.1,kv.2]):=by
 unfold cO at e;split at e
 ·rename_i k hk;cases e;show⟨_,hk,rfl,rfl⟩
 ·rename_i hk;cases e;show⟨_,hk,rfl,rfl⟩
 ·cases e
theorem V0{α:Type}{key:α->z_ Key}{f:Fn}{emb:α->PV}{xs:z_ α}{x:PV}(e:rX x h=a_ (xs.map emb))(h1:xs.length<64)(h3:yJ (xs.map key)=true)(h4:(xs.map key).Nodup)(hf:∀d∈xs,∀h(Q:PV->PH->Prop),(∀h',S1 h'->Q (tP (key d)) h')->(f [emb d] h).W Q)(k:∀h',S1 h'->Q (.ref h'.length) (h'++[.lst ((fO key xs).map emb)])):(tS f false x h).W Q:=by
 unfold tS;rw[e];dsimp only;rw[if_pos (k_ h1)];show M7 (key:=key) xs [] h hf (Ka h1 h3 h4) λh' hx=>k h' hx
variable{elt:Me}{js:z_ (A_ Nat)}{mi:Mi}
theorem V1{g:PH->Bool}(P:Nat->PV->Prop)(e:mi δ h=.ok ⟨xs,g⟩ h1)(hg:∀h,Ext h1 h->g h=true)(hz:xs.length<=16777216)(step:∀i x,xs[i]?=a_ x->∃δ1,tg x (nY js δ)=a_ δ1/\∀h,Ext h1 h->∀Q:PV->PH->Prop,(∀v h',S1 h'->P i v->Q v h')->(elt δ1 h).W Q)(k:∀l h'(vs:z_ PV),Ext h1 h'->h1.length<=l->vs.length=xs.length->h'[l]?=a_ (.lst vs)->(∀i v,vs[i]?=a_ v->P i v)->Q (.ref l) h'):(gO js mi tg oI elt δ h).W Q:=by
 unfold gO;rw[e,Rs.bind_ok];refine Iq (λi h'=>Ext h1 h'/\∃vs:z_ PV,vs.length=i/\h'[h1.length]?=a_ (.lst vs)/\∀i v,vs[i]?=a_ v->P i v) xs 0 _ ⟨H_ _,[],rfl,by simp,λi v hv=>by simp at hv⟩ (λi x h' _ hx hi=>?_) (λh' hi=>?_)
 ·let⟨x1,vs,lv,g1,ov⟩:=hi;let hx:xs[i]?=a_ x:=by simpa using hx
  let hil:=(xt.mp hx).1;let⟨δ1,ht,hs⟩:=step i x hx;refine⟨hg _ x1,δ1,ht,?_⟩;let hY:oI δ1 h'=.ok true h':=rfl;rw[hY,Ij,q0k 0];refine hs h' x1 _ λv h2 x2 pv=>?_;refine⟨_,x2 _ _ g1,⋯,(x1.trans x2).setN (yg _),vs++[v],by simp[lv],eM (x2 _ _ g1),λj w hw=>?_⟩;rcases Nat.lt_trichotomy j vs.length with z|z|z
  ·rw[zw z]at hw;show ov j w hw
  ·rw[z,y0E (yg _),Nat.sub_self]at hw;cases hw
   rw[z,lv];show pv
  ·rw[y0E ⋯]at hw;have:=(xt.mp hw).1;simp at this;omega
 ·let⟨x1,vs,lv,g1,ov⟩:=hi;rw[Nat.zero_add]at lv;show⟨hg _ x1,q0X vs x1 (yg _) lv g1 ov⟩
def oP(x:Nm×Rc):PV:=.tup [pv x.1,.str x.2.kd,obN x.2.hd,x.2.st]
def pO(x:Nm×Rc):z_ Key:=[.inr x.1.1,.inl x.1.2]
theorem Pe(ts:Md):yJ (ts.map pO)=true:=by
 unfold yJ;cases ts with
 |nil=>rfl
 |cons x M=>rw[yq];simp[pO,shape];show λ_ _ _ _=>⟨rfl,rfl⟩
theorem V2(nd:(M.map (·.1)).Nodup):(M.map pO).Nodup:=by unfold List.Nodup at*;rw[y0v] at*;show nd.imp λcq e=>cq (by unfold pO at e;simp at e;show Prod.ext e.1 e.2)
theorem KD{lt:Nat}(t:T_ 0)(nd:(M.map (·.1)).Nodup)(lM:M.length<64)(Q:PV->PH->Prop)(k:∀l h',S1 h'->h'[l]?=a_ (.lst ((fO pO M).map oP))->Q (.ref l) h'):(eX [.ref lt] h).W Q:=by
 refine eD ?_;unfold wB;let⟨o,ho,hd,hi⟩:=Mv t.made;let aw:qG o=a_ (M.map λy=>.tup [pv y.1,sR y.2]):=by rw[hi,z7];rfl
 let e0:JT lB pJ (mUn (cW "made") (mV 0)) [c_ lt] h=.ok (.ref h.length) (h++[.vw 0 lm]):=by simp[t.fm,t.dict,EV ho hd]
 let f9:(h++[MO.vw 0 lm])[lm]?=a_ o:=H_ _ _ _ ho;let hc:=OZ (js:=[b_,b_]) (tg:=gTp 2 (gCn (gN 0) (gCn (gN 1) gNl))) (tst:=oI) (elt:=aE cE (dW (aB (mV 0) aL)) (mV 1)) (δ:=[c_ lt]) (h:=h) (ys:=M) (emb:=λy=>.tup [pv y.1,sR y.2]) (λy=>a_ (oP y)) e0 (Rr aU f9 aw) (by rw[ho];show hd) f9 ⋯
  (λy hy=>⟨[a_ (pv y.1),a_ (sR y.2)],by simp[nY],λh=>⟨rfl,by
   have:cE (.tup [pv y.1]) (sR y.2) h=.ok (oP y) h:=by unfold sR oP;rw[Bx (by simp)];rfl
   simp[this]⟩⟩)
 rw[filterMap_some]at hc;let x1:S1 (h++[MO.vw 0 lm]++[MO.lst (M.map oP)]):=(H_ _).trans (H_ _);let g1:(h++[MO.vw 0 lm]++[MO.lst (M.map oP)])[(h++[MO.vw 0 lm]).length]?=a_ (.lst (M.map oP)):=aU;generalize (h++[MO.vw 0 lm]).length=l1 at hc g1;generalize h++[MO.vw 0 lm]++[MO.lst (M.map oP)]=h1 at hc g1 x1;simp[hc];refine V0 (key:=pO) (EM g1) lM (Pe M) (V2 nd) (λd hd h Q kk=>?_) λh' x'=>?_
 ·refine eD ?_;unfold vZ;have:vIx (oP d) (.int 0) h=.ok (tP (pO d)) h:=by unfold oP;simp;rfl
  simp[this];show kk h (Ext.refl _)
 ·show q0X (x1.trans (x'.trans (H_ _))) aU
theorem KF{lt:Nat}(t:T_ 0):fW [.ref lt] h=.ok (.ref h.length) (h++[.lst (L.map pv)]):=by
 let w:(fW [.ref lt] h).W λq h'=>q=.ref h.length/\h'=h++[.lst (L.map pv)]:=by refine eD ?_;unfold wC;simp[t.ff,nZ t.fail]
 let⟨q,h',e,rfl,rfl⟩:=pH w;show e
theorem tcC:eG "Count" = a_ iM:=by simp[eG]
theorem tcH:eG "Choice" = a_ gY:=by simp[eG,nHC]
theorem tcB:eG "Bag" = a_ kH:=by simp[eG,nBC,nBH]
theorem nXC:¬ (yi "Text")=yi "Count" := by decide +kernel
theorem nXH:¬ (yi "Text")=yi "Choice" := by decide +kernel
theorem nXB:¬ (yi "Text")=yi "Bag" := by decide +kernel
theorem tcX:eG "Text" = a_ jG:=by simp[eG,nXC,nXH,nXB]
theorem nSM:¬ (yi "Signs")=yi "Marks" := by decide +kernel
theorem nTM:¬ (yi "Tree")=yi "Marks" := by decide +kernel
theorem nTS:¬ (yi "Tree")=yi "Signs" := by decide +kernel
theorem trM:eC "Marks" = a_ eQ:=by simp[eC]
theorem trS:eC "Signs" = a_ eR:=by simp[eC,nSM]
theorem trT:eC "Tree" = a_ eX:=by simp[eC,nTM,nTS]
theorem Sd(F:oC h b n kd c):∃cn fs fn,h[c]?=a_ (.ins cn fs)/\fs.lookup ("content" : Str)=b_/\eG cn=a_ fn/\
  ∀Q:PV->PH->Prop,(∀v h',S1 h'->mS v=false->Q v h')->(fn [.ref c] h).W Q:=by
 cases F with
 |cnt i e bc g=>refine⟨_,_,_,g,rfl,tcC,λQ k=>?_⟩;refine eD ?_;unfold oO;have:cW "total" (.ref c) h=.ok (.int i) h:=iV g rfl;simp[this];show q0X (Ext.refl _) rfl
 |lst cn s R e bc g bs gs ln=>
  let fs:cW "standing" (.ref c) h=.ok (.ref s) h:=iV g rfl;rcases e with⟨_,rfl⟩|⟨_,rfl⟩
  ·refine⟨_,_,_,g,rfl,tcH,λQ k=>?_⟩;refine eD ?_;unfold nB;simp[fs,nZ gs];show q0X (H_ _) rfl
  ·refine⟨_,_,_,g,rfl,tcB,λQ k=>?_⟩;refine eD ?_;unfold rZ;simp[fs,nZ gs];show q0X (H_ _) rfl
 |txt s m k t e bc g b4 gs gk gm gt=>
  refine⟨_,_,_,g,rfl,tcX,λQ kk=>?_⟩;refine eD ?_;unfold qM;let fs:cW "signs" (.ref c) h=.ok (.ref s) h:=iV g rfl;let ms:=bZ (mm:="rows") (n:=0) (tb:=eC) (ms:=aL) (δ:=[c_ c]) (h:=h) (h1:=h) (mo:=mUn (cW "signs") (mV 0)) (k:=s) (f:=eR) (by simp[fs]) gs trS rfl;let sr:(eR [.ref s] h).W λv h'=>∃l,v=.ref l/\S1 h':=by
   refine eD ?_;unfold uA;let fk:cW "kept" (.ref s) h=.ok (.ref k) h:=iV gs rfl;let dk:lB (.ref k) h=true:=by simp[lB,gk]
   simp[fk,dk,EV gk rfl];let x1:S1 (h++[MO.vw 0 k]):=H_ _;refine RB (α:=PV) (key:=id) (emb:=id) (xs:=[]) (by rw[Km aU (x1 _ _ gk)];rfl) (by simp) ⟨⋯,(λx hx=>nomatch hx),(λx hx=>nomatch hx),λx hx=>nomatch hx⟩ (λa ha=>nomatch ha) (λd hd=>nomatch hd) λos h' x' _ _=>⟨⟨_,rfl⟩,x1.trans (x'.trans (H_ _))⟩
  let⟨v,h1,e1,l1,rfl,x1⟩:=pH sr;let fm:cW "marks" (.ref c) h1=.ok (.ref m) h1:=iV (x1 _ _ g) rfl;let mm:=bZ (mm:="rows") (n:=0) (tb:=eC) (ms:=aL) (δ:=[c_ c]) (h:=h1) (h1:=h1) (mo:=mUn (cW "marks") (mV 0)) (k:=m) (f:=eQ) (by simp[fm]) (x1 _ _ gm) trM rfl;let mr:(eQ [.ref m] h1).W λv h'=>∃l,v=.ref l/\Ext h1 h':=by refine eD ?_;unfold tZ;let fk:cW "standing" (.ref m) h1=.ok (.ref t) h1:=iV (x1 _ _ gm) rfl;let hc:=sL (m:=mUn (cW "standing") (mV 0)) (js:=[b_]) (tg:=gN 0) (tst:=oI) (elt:=aE cE (mSl (mV 0) rC (mP (p_ 4))) (dW (aB (mCB iW (aB (D_ (mV 0) (p_ 4)) aL)) aL))) (δ:=[c_ m]) (h:=h1) (h1:=h1) (n:=t) (ys:=([]:z_ PV)) (emb:=id) (λt=>b_) (by simp[fk]) (x1 _ _ gt) (by simp) (λt ht=>nomatch ht);simp[hc];show H_ _
  let⟨v,h2,e2,l2,rfl,x2⟩:=pH mr;simp[ms,e1,mm,e2];show kk _ _ (x1.trans x2) rfl
theorem FS.ext{lt:Nat}(f:O_ 0)(x:S1 h'):q1u n M L:=by let⟨kvs,tl,lk,v⟩:=f.lv;show⟨x _ _ f.fo,f.tr.ext x,f.lo,f.hi,f.ne,ze f.bl x.len,kvs,sN x tl,lk,λp=>(v p).imp rfl rfl λ_ _ z=>z.keep λi o _ e=>x _ _ e⟩
theorem V3{lt:Nat}(f:O_ 0)(e:q0p p=a_ r)(Q:PV->PH->Prop)(k:∀v h',S1 h'->mS v=!pD r.kd->Q v h'):(cZ [.ref l,pv p] h).W Q:=by
 refine eD ?_;unfold jH;let⟨kvs,tl,lk,lv⟩:=f.lv;let lp:=lv p;rw[e]at lp;let lp:if pD r.kd=true then ∃c,q0H (pv p)=c_ c/\oC h b n r.kd c else bB kvs (pv p)=b_:=lp;let hs:mG (pv p) (.ref ll) h=.ok (.bl (q0H (pv p)).isSome) h:=by unfold pv;rw[Hr];show Rg tl rfl
 cases hk:pD r.kd with
 |false=>rw[hk,if_neg yl]at lp;rw[lp]at hs;simp[f.fl,hs];show q0X (Ext.refl _) (by rw[hk];rfl)
 |true=>rw[hk,q0k 0]at lp;let⟨c,g1,g2⟩:=lp;rw[g1]at hs;let⟨cn,fs,fn,gc,nl,tb,W⟩:=Sd g2;let va:vAt (.ref ll) (pv p) h=.ok (.ref c) h:=RT tl rfl g1;let mm:=bZ (mm:="content") (n:=0) (tb:=eG) (ms:=aL) (δ:=[c_ l,a_ (pv p)]) (h:=h) (h1:=h) (mo:=D_ (mUn (cW "leaves") (mV 0)) (mV 1)) (k:=c) (f:=fn) (by simp[f.fl,va]) gc tb nl;simp[f.fl,hs,mm];show W _ λv h' x z=>k v h' x (by rw[hk,z];rfl)
theorem XE(nd:(M.map (·.1)).Nodup){x:Nm×Rc}(hx:x∈M):q0p x.1=a_ x.2:=by
 induction M with
 |nil=>cases hx
 |cons y M ih=>
  rw[yq,y1g]at nd;unfold fnd;rcases yr.mp hx with rfl|h
  ·rw[q0k 0]
  ·rw[if_neg (λz=>nd.1 (y6.mpr ⟨x,h,z.symm⟩))];show ih nd.2 h
theorem nFC:¬ (yi "Folding")=yi "Count" := by decide +kernel
theorem nFH:¬ (yi "Folding")=yi "Choice" := by decide +kernel
theorem nFB:¬ (yi "Folding")=yi "Bag" := by decide +kernel
theorem nFT:¬ (yi "Folding")=yi "Tree" := by decide +kernel
theorem tbF:gG "Folding" = a_ dX:=by simp[gG,nFC,nFH,nFB,nFT]
theorem zaV:gG "Tree" = a_ cY:=by simp[gG,nTC,nTH,nTB]
def RwP(S:Md)(i:Nat)(v:PV):Prop:=∃x c,S[i]?=a_ x/\v=.tup [pv x.1,.str x.2.kd,obN x.2.hd,x.2.st,c]/\mS c=!pD x.2.kd
theorem V4{lt:Nat}(f:O_ 0)(nd:(M.map (·.1)).Nodup)(lM:M.length<64)(Q:PV->PH->Prop)(k:∀l1 l2 vs h',S1 h'->h'[l1]?=a_ (.lst vs)->vs.length=(fO pO M).length->(∀i v,vs[i]?=a_ v->RwP (fO pO M) i v)->h'[l2]?=a_ (.lst (L.map pv))->Q (.tup [.ref l1,.ref l2]) h'):(gZ [.ref l] h).W Q:=by
 refine eD ?_;unfold qN;let mr:=bZ (mm:="rows") (n:=0) (tb:=eC) (ms:=aL) (δ:=[c_ l]) (h:=h) (h1:=h) (mo:=mUn (cW "tree") (mV 0)) (k:=lt) (f:=eX) (by simp[f.ft]) f.tr.ins trT rfl;let⟨v,h1,e1,l1,rfl,x1,g1⟩:=pH (KD f.tr nd lM (λv h'=>∃l,v=.ref l/\S1 h'/\h'[l]?=a_ (.lst ((fO pO M).map oP))) λl h' x g=>⟨l,rfl,x,g⟩);let f1:=f.ext x1;let pm:(fO pO M).Perm M:=qE M;let ls:(fO pO M).length=M.length:=pm.length_eq;let mem:∀x∈fO pO M,q0p x.1=a_ x.2:=λx hx=>XE nd (pm.mem_iff.mp hx);generalize fO pO M=S at g1 ls mem k;let es:dM (eL "rows" 0 eC (mUn (cW "tree") (mV 0)) aL) [c_ l] h=.ok ⟨S.map oP,JS l1 (S.map oP)⟩ h1:=JY (by simp[mr,e1]) g1;let⟨v,h2,e2,lb,vs,rfl,x2,lv,g2,pv2⟩:=pH (V1 (js:=[b_,a_ 0]) (tg:=gN 0) (elt:=aE cE (mV 0) (dW (aB (eL "content_of" 1 kI (mV 1) (aB (D_ (mV 0) (p_ 0)) aL)) aL))) (P:=RwP S) (Q:=λv h'=>∃l vs,v=.ref l/\Ext h1 h'/\vs.length=S.length/\h'[l]?=a_ (.lst vs)/\∀i v,vs[i]?=a_ v->RwP S i v) es (JZ g1) (by rw[yh];omega)
  (λi x hx=>by
   rw[yy]at hx;let⟨y,hy,rfl⟩:=zq.mp hx;refine⟨[a_ (oP y),c_ l],by simp[nY],λh3 x3 Q k=>?_⟩;let f3:=f1.ext x3;let i0:vIx (oP y) (.int 0) h3=.ok (pv y.1) h3:=by unfold oP;simp
   let mc:=bZ (mm:="content_of") (n:=1) (tb:=kI) (ms:=aB (D_ (mV 0) (p_ 0)) aL) (δ:=[a_ (oP y),c_ l]) (h:=h3) (h1:=h3) (mo:=mV 1) (k:=l) (f:=cZ) (by simp) f3.fo (by simp[kI]) rfl;simp[mc,i0];refine V3 f3 (mem y (zi hy)) _ λc h4 x4 nc=>?_;let vp:cE (oP y) (.tup [c]) h4=.ok (.tup [pv y.1,.str y.2.kd,obN y.2.hd,y.2.st,c]) h4:=by unfold oP;rw[Bx (by simp)];rfl
   simp[vp];show q0X x4 ⟨y,c,hy,rfl,nc⟩)
  λl h' vs x _ lv g p=>⟨l,vs,rfl,x,by rw[lv,yh],g,p⟩)
 let f2:=f1.ext x2;let ml:=bZ (mm:="lost") (n:=0) (tb:=pN) (ms:=aL) (δ:=[c_ l]) (h:=h2) (h1:=h2) (mo:=mUn (cW "tree") (mV 0)) (k:=lt) (f:=fW) (by simp[f2.ft]) f2.tr.ins (by simp[pN]) rfl;simp[e2,ml,KF f2.tr];show q0X vs _ ((x1.trans x2).trans (H_ _)) (H_ _ _ _ g2) lv pv2 aU
variable{ld:Nat}
theorem V5{f:Dd->A_ Act}{ds:z_ Dd}(hw:∀d∈ds,DA d (f d)/\d.nm≠root/\Wf d)(hl:ds.length<=60)(hu:∀d∈ds,∀e∈ds,d.nm=e.nm->d=e)(gr:h[lr]?=a_ (.lst []))(gx:h[lx]?=a_ (.lst []))(gd:h[ld]?=a_ (.lst (ds.map dP)))(Q:PV->PH->Prop)(k:∀os l1 l2 vs h',S1 h'->DOk f os->(∀d,d∈os↔d∈ds)->BI os->h'[l1]?=a_ (.lst vs)->vs.length=(fO pO (hW f os).1).length->(∀i v,vs[i]?=a_ v->RwP (fO pO (hW f os).1) i v)->h'[l2]?=a_ (.lst ((hW f os).2.map pv))->Q (.tup [.ref l1,.ref l2]) h'):(F2 [.tup [.ref lr,.ref lx],.ref ld] h).W Q:=by
 refine eD ?_;unfold Mp;rw[aS,YW];refine BL (ps:=[.tup [.ref lr,.ref lx]]) (h1:=h) (by simp) rfl ?_;let g0:(h++[MO.ins "Folding" []])[h.length]?=a_ (.ins "Folding" []):=aU;refine Sb (H_ _) g0 (H_ _ _ _ gr) (H_ _ _ _ gx) λlt lm lf ll b h1 x1 f1=>⟨rfl,?_⟩;rfl';rw[aS];let⟨v,h2,e2,os,lo,rfl,x2,b2,g2,nd,mem,br⟩:=pH (IL ds ds (λ_ h=>h) ⋯ (λd hd=>(hw d hd).2.2) ⋯ hu ld h1 (x1 _ _ gd) (λv h'=>∃os l,v=.ref l/\Ext h1 h'/\h1.length<=l/\h'[l]?=a_ (.lst (os.map dP))/\(os.map (·.nm)).Nodup/\(∀d,d∈os↔d∈ds)/\BI os) λos l h' x b g nd m br=>⟨os,l,rfl,x,b,g,nd,m,br⟩);let lO:os.length<=60:=by
  have:=y13 nd (l₂:=ds.map (·.nm)) λp hp=>by let⟨d,hd,rfl⟩:=y6.mp hp;show y6.mpr ⟨d,(mem d).mp hd,rfl⟩
  simp at this;omega
 let O:DOk f os:=⟨λd hd=>hw d ((mem d).mp hd),nd,lO⟩
 -- the list of deeds lies above what the folding changes;it is kept by name
 let f2:=f1.ext x2;refine By (n:=lo) (xs:=os.map dP) (h1:=h2) (λq δ h'=>S1 h'/\FS h' h.length h.length lt lm lf ll b q (hW f (q1d 0)).1 (hW f (q1d 0)).2/\h'[lo]?=a_ (.lst (os.map dP))/\∃x3,δ=[a_ (.tup [.ref lr,.ref lx]),c_ ld,q1b 0,x3]) (by simp[e2]) g2 ⟨x1.trans x2,f2,g2,_,rfl⟩ (λq δ h' _ i=>i.2.2.1) ?_ ?_
 ·rintro q y δ h' hy ⟨x,fq,gl,x3,rfl⟩;rw[yy]at hy;let⟨d,hd,rfl⟩:=zq.mp hy;refine⟨_,rfl,?_⟩;let hq:=(xt.mp hd).1;let⟨nw,e1⟩:=NQ O hd;let P:=F6 O q;let lt':(q1d 0).length<=60:=by rw[y03];omega
  let D:=O.da d (zi hd);let mh:=bZ (mm:="hear") (n:=1) (tb:=gG) (ms:=aB (mV 3) aL) (δ:=[a_ (.tup [.ref lr,.ref lx]),c_ ld,q1b 0,a_ (dP d)]) (h:=h') (h1:=h') (mo:=mV 2) (k:=h.length) (f:=dX) (by simp) fq.fo tbF rfl;unfold Ko;simp[mh];refine S8 fq P.T (by have:=P.lM;omega) (by have:=P.lL;omega) ⋯ D.2.2.len D.1 (λ_ _ _ _=>nw) _ λv h3 kb f3=>?_;let e2:hW f (os.take (q+1))=st1 (hW f (q1d 0)).1 (hW f (q1d 0)).2 d.nm (f d):=by rw[e1,F5]
  rw[<-e2]at f3;show⟨λi o e=>kb.1 i o (xt.mp e).1 (x i o e),f3,kb.2 _ _ (by have:=f1.hi;have:=f1.bl;omega) gl⟩
 ·rintro δ h' ⟨x,fq,gl,x3,rfl⟩;rw[yh,y2c]at fq;rfl';let mb:=bZ (mm:="base") (n:=0) (tb:=DP) (ms:=aL) (δ:=[a_ (.tup [.ref lr,.ref lx]),c_ ld,q1b 0,x3]) (h:=h') (h1:=h') (mo:=mV 2) (k:=h.length) (f:=gZ) (by simp) fq.fo (by simp[DP]) rfl;simp[mb];let P:=F6 O os.length;rw[y2c]at P;show V4 fq P.nd (by have:=P.lM;omega) _ λl1 l2 vs h3 x3 g3 lv pv3 g4=>k os l1 l2 vs h3 (x.trans x3) O mem br g3 lv pv3 g4
def Pf(A:z_ PV):Prop:=(∃a,RX a/\A=jT a/\KdA a)\/LfA A
structure KI(h:PH)(lk q:Nat):Prop where
 ex:∃kvs,cO h lk=some kvs/\kvs≠[]/\kvs.length<=q/\∀e∈kvs,∃(p:Nm)(k:Str),e=(pv p,.str k)
variable{lk:Nat}
theorem KI.ext{q:Nat}(i:KI h lk q)(x:S1 h'):KI h' lk q:=by let⟨kvs,t,a,b,c⟩:=i.ex;show⟨kvs,sN x t,a,b,c⟩
theorem Pg{κ:Type}[q0P 0]{kvs:z_ (κ×PV)}{k:κ}{v:PV}(e:q0H k=a_ v):∃x∈kvs,x.2=v:=by
 induction kvs with
 |nil=>cases e
 |cons x r ih=>
  let⟨a,y⟩:=x;unfold bB at e;split at e
  ·cases e;show⟨_,ye,rfl⟩
  ·let⟨x,h1,h2⟩:=ih e;show⟨x,yd _ h1,h2⟩
theorem XF{z:PV}(e:cO h n=a_ kvs)(hk:(PV.tup xs).ky 6=true):Iv (.ref n) [.tup xs,z] h=.ok ((q0H (.tup xs)).getD z) h:=by
 let k1:(PV.tup xs).isKt=true:=hk;have:oJ (.tup xs) (.ref n) h=a_ (q0H (.tup xs)):=by simp only[oJ,k1,if_true,e,y2G]
 unfold Iv dG;simp only[this]
theorem uB(g:h[n]?=a_ (.lst xs))(ne:xs≠[])(i:Int):∃p∈xs,vIx (.ref n) (.int (i%(xs.length:Int))) h=.ok p h:=by let⟨p,e,m⟩:=Uo (xs:=xs) (i:=i) ne;show⟨p,m,by rw[mE g,e];rfl⟩
noncomputable def aT:Ms:=
 (aZ (eJ (cJ (aE CL (q1g (D_ (mV 0) (p_ 1)) (p_ 8)) (p_ 3)))
  (aZ (dI 7 (D_ (oH (aB (mC (.str "map")) (aB (mC (.str "row")) (aB (mC (.str "map")) (aB (mC (.str "row")) (aB (mC (.str "count")) (aB (mC (.str "choice")) (aB (mC (.str "bag")) (aB (mC (.str "text")) aL))))))))) (q1g (aE G3 (D_ (mV 0) (p_ 2)) (p_ 64)) (p_ 8))))
  (cI (dW (aB (mC (.str "make")) (aB (mV 7) (aB (mV 5) (aB (mV 6) aL)))))))
  eY)
 (aZ (eJ (cJ (aE CL (q1g (D_ (mV 0) (p_ 1)) (p_ 8)) (p_ 6)))
  (cI (dW (aB (mC (.str "move")) (aB (mV 4) (aB (mV 5) (aB (mV 6) aL))))))
  eY)
 (aZ (eJ (cJ (q0L (q1g (D_ (mV 0) (p_ 1)) (p_ 8)) (p_ 6)))
  (cI (dW (aB (mC (.str "drop")) (aB (mV 4) aL))))
  eY)
 (cI (dW (aB (D_ (oH (aB (mC (.str "add")) (aB (mC (.str "choose")) (aB (mC (.str "put")) aL)))) (q1g (D_ (mV 0) (p_ 4)) (p_ 3))) (aB (mV 4) (aB (aE Ic (D_ (mV 0) (p_ 5)) (aE OA (p_ 10) (p_ 9))) aL))))))))
variable{x1 x2 x3 x7:A_ PV}
section
variable{xs:z_ Int}
theorem Zo(mq:xs.length=10)(bx:∀x∈xs,0<=x/\x<2147483647)(gx:h[lx]?=a_ (.lst (q1t 0)))(so:Mt sp)(sl:Pd sp)(k:∀A h',S1 h'->Pf A->Q (.tup A) h'):(aT [c_ lx,x1,x2,x3,a_ (pv th),a_ (pv ho),a_ (spP sp),x7] h).W { nx:=λ_ h=>Q .non h,rt:=Q}:=by
 let ix:∀{h'},S1 h'->∀i:Nat,(hi:i<10)->vIx (.ref lx) (.int i) h'=.ok (.int (xs[i]'⋯)) h':=λx i hi=>by rw[mE (x _ _ gx),BK ⋯];rfl
 let i1:=ix (Ext.refl _) 1 ⋯;let i2:=λh'(x:S1 h')=>ix x 2 ⋯;let i4:=λh'(x:S1 h')=>ix x 4 ⋯;let i5:=λh'(x:S1 h')=>ix x 5 ⋯;let b1:=bx xs[1] (zp _);let b2:=bx xs[2] (zp _);let b4:=bx xs[4] (zp _);let b5:=bx xs[5] (zp _);generalize xs[1]=v1 at i1 b1;generalize xs[2]=v2 at i2 b2;generalize xs[4]=v4 at i4 b4;generalize xs[5]=v5 at i5 b5;let i1:vIx (.ref lx) (.int 1) h=.ok (.int v1) h:=i1;unfold aT;rw[aS,fG];by_cases c1:v1%8<3
 ·simp(disch:=omega) [i1,c1];rw[aS];let xL:S1 (h++[MO.lst [.str "map",.str "row",.str "map",.str "row",.str "count",.str "choice",.str "bag",.str "text"]]):=H_ _;let gL:(h++[MO.lst [.str "map",.str "row",.str "map",.str "row",.str "count",.str "choice",.str "bag",.str "text"]])[h.length]?=a_ (.lst [.str "map",.str "row",.str "map",.str "row",.str "count",.str "choice",.str "bag",.str "text"]):=aU;simp;generalize h.length=ll at gL;generalize h++[MO.lst [.str "map",.str "row",.str "map",.str "row",.str "count",.str "choice",.str "bag",.str "text"]]=hL at xL gL;let i2':vIx (.ref lx) (.int 2) hL=.ok (.int v2) hL:=i2 _ xL;let⟨p,mp,ep⟩:=uB gL (by simp) (v2/64);obtain⟨kd,rfl,hk⟩:∃kd:Str,p=.str kd/\Pc kd:=by
   simp at mp;rcases mp with rfl|rfl|rfl|rfl|rfl|rfl|rfl|rfl
   ·show⟨_,rfl,.inl rfl⟩
   ·show⟨_,rfl,.inr (.inl rfl)⟩
   ·show⟨_,rfl,.inl rfl⟩
   ·show⟨_,rfl,.inr (.inl rfl)⟩
   ·show⟨_,rfl,.inr (.inr (by decide +kernel))⟩
   ·show⟨_,rfl,.inr (.inr (by decide +kernel))⟩
   ·show⟨_,rfl,.inr (.inr (by decide +kernel))⟩
   ·show⟨_,rfl,.inr (.inr (by decide +kernel))⟩
  let ep:vIx (.ref ll) (.int (v2/64%8)) hL=.ok (.str kd) hL:=ep;simp(disch:=omega) [i2',ep];rfl';simp;show q0X xL (.inl ⟨.make kd ho sp,so,rfl,hk,sl⟩)
 ·simp(disch:=omega) [i1,c1];rfl';rw[aS,fG];by_cases c2:v1%8<6
  ·simp(disch:=omega) [i1,c2];show q0X (Ext.refl _) (.inl ⟨.move th ho sp,so,rfl,sl⟩)
  ·simp(disch:=omega) [i1,c2];rfl';rw[aS,fG];by_cases c3:v1%8=6
   ·simp(disch:=omega) [i1,c3];show q0X (Ext.refl _) (.inl ⟨.drop th,trivial,rfl,trivial⟩)
   ·simp(disch:=omega) [i1,c3];rfl';let xL:S1 (h++[MO.lst [.str "add",.str "choose",.str "put"]]):=H_ _;let gL:(h++[MO.lst [.str "add",.str "choose",.str "put"]])[h.length]?=a_ (.lst [.str "add",.str "choose",.str "put"]):=aU;simp;generalize h.length=ll at gL;generalize h++[MO.lst [.str "add",.str "choose",.str "put"]]=hL at xL gL;let xq:vIx (.ref lx) (.int 4) hL=.ok (.int v4) hL:=i4 _ xL;let i5':vIx (.ref lx) (.int 5) hL=.ok (.int v5) hL:=i5 _ xL;let⟨p,mp,ep⟩:=uB gL (by simp) v4;obtain⟨w,rfl,hw⟩:∃w:Str,p=.str w/\(w="add" \/ w="choose" \/ w="put"):=by
     simp at mp;rcases mp with rfl|rfl|rfl
     ·show⟨_,rfl,.inl rfl⟩
     ·show⟨_,rfl,.inr (.inl rfl)⟩
     ·show⟨_,rfl,.inr (.inr rfl)⟩
    let ep:vIx (.ref ll) (.int (v4%3)) hL=.ok (.str w) hL:=ep;simp(disch:=omega) [xq,i5',ep];show q0X xL (.inr ⟨w,th,_,rfl,hw⟩)
end
variable{hs:z_ Str}{lh:Nat}
section
variable{xs:z_ Int}{q:Nat}
theorem XG(mq:xs.length=10)(bx:∀x∈xs,0<=x/\x<2147483647)(gx:h[lx]?=a_ (.lst (q1t 0)))(ki:KI h lk q)(hq:q<=1000)(gh:h[lh]?=a_ (.lst (hs.map PV.str)))(h1:1<=hs.length)(h6:hs.length<=6)(Q:PV->PH->Prop)(k:∀A h',S1 h'->Pf A->Q (.tup A) h'):(Kn [.ref lx,.ref lk,.ref lh] h).W Q:=by
 let ix:∀i:Nat,(hi:i<10)->∀{h'},S1 h'->vIx (.ref lx) (.int i) h'=.ok (.int (xs[i]'⋯)) h':=λi hi _ x=>by rw[mE (x _ _ gx),BK ⋯];rfl
 let i2:∀{h'},S1 h'->vIx (.ref lx) (.int 2) h'=.ok (.int xs[2]) h':=ix 2 ⋯;let i3:∀{h'},S1 h'->vIx (.ref lx) (.int 3) h'=.ok (.int xs[3]) h':=ix 3 ⋯;let i4:∀{h'},S1 h'->vIx (.ref lx) (.int 4) h'=.ok (.int xs[4]) h':=ix 4 ⋯;let i5:∀{h'},S1 h'->vIx (.ref lx) (.int 5) h'=.ok (.int xs[5]) h':=ix 5 ⋯;let i6:∀{h'},S1 h'->vIx (.ref lx) (.int 6) h'=.ok (.int xs[6]) h':=ix 6 ⋯;let b2:=bx xs[2] (zp _);let b3:=bx xs[3] (zp _);let b4:=bx xs[4] (zp _);let b5:=bx xs[5] (zp _);let b6:=bx xs[6] (zp _);generalize xs[2]=v2 at i2 b2;generalize xs[3]=v3 at i3 b3;generalize xs[4]=v4 at i4 b4;generalize xs[5]=v5 at i5 b5;generalize xs[6]=v6 at i6 b6;let cq:hs.map PV.str≠[]:=by intro z;have:=congrArg y2i z;simp at this;rw[this]at h1;simp at h1
 obtain⟨w0,hw0⟩:∃w0,∀{h'},S1 h'->vIx (.ref lh) (.int 0) h'=.ok (.str w0) h':=by
  cases hs with
  |nil=>simp at h1
  |cons z zs=>exact⟨z,λx=>by rw[mE (x _ _ gh),show atI (List.map PV.str (z::zs)) 0=a_ (.str z) from lY (i:=0) (by simp)];rfl⟩
 let⟨kvs,tk,nk,lkv,fk⟩:=ki.ex;refine eD ?_;unfold RF;rw[aS];simp[P3 tk];let xA:S1 (h++[MO.lst (kvs.map (·.1))]):=H_ _;let gA:(h++[MO.lst (kvs.map (·.1))])[h.length]?=a_ (.lst (kvs.map (·.1))):=aU;let nA:kvs.map (·.1)≠[]:=by intro z;show nk (List.map_eq_nil_iff.mp z)
 let fA:∀p∈kvs.map (·.1),∃n:Nm,p=pv n:=λp hp=>by let⟨e,he,rfl⟩:=y6.mp hp;let⟨n,k,rfl⟩:=fk e he;show⟨n,rfl⟩
 let lA:(kvs.map (·.1)).length<=1000:=by simp;omega
 let pA:0<(kvs.map (·.1)).length:=List.length_pos_iff.mpr nA;generalize h.length=la at gA;generalize h++[MO.lst (kvs.map (·.1))]=hA at xA gA;generalize kvs.map (·.1)=ys at gA nA fA lA pA;rfl';let⟨p1,m1,e1⟩:=uB gA nA v2;let⟨th,rfl⟩:=fA p1 m1;let⟨p2,m2,e2⟩:=uB gA nA v3;let⟨ho,rfl⟩:=fA p2 m2;rw[aS];simp(disch:=omega) [i2 xA,sJ gA,e1];rfl';rw[aS];simp(disch:=omega) [i3 xA,sJ gA,e2]
 -- behind the thing and the holder
 let jy:∀(th ho:Nm) (sp:Spot) hX,S1 hX->Mt sp->Pd sp->Lt aT { nx:=λ_ h=>Q .non h,rt:=Q} [c_ lx,c_ lk,c_ lh,c_ la,a_ (pv th),a_ (pv ho),a_ (spP sp),b_] hX:=λth ho sp hX x so sl=>now (Zo mq bx (x _ _ gx) so sl λA h' x' z=>k A h' (x.trans x') z);let rest:∀(th ho:Nm),Lt (aZ (dI 6 (D_ (oH (aB (mC (.str "a")) (aB (mC (.str "ab")) (aB (mC (.str "key")) (aB (mC (.str "b")) aL))))) (q1g (D_ (mV 0) (p_ 4)) (p_ 4))))
   (aZ (eJ (cJ (q0L (mMt lB Iv (mV 1) (aB (mV 5) (aB (mC (.str "map")) aL))) (mC (.str "row"))))
  (dI 6 (dW (aB (dW (aB (dW (aB (p_ 1) (aB (D_ (mV 2) (q1g (D_ (mV 0) (p_ 4)) (mCB pG (aB (mV 2) aL)))) (aB (aE cE (p_ 1) (q1g (D_ (mV 0) (p_ 5)) (p_ 9))) (aB (p_ 0) aL))))) aL)) (aB (aE Ic (aE Ie (q1g (aE G3 (D_ (mV 0) (p_ 5)) (p_ 16)) (p_ 2)) (p_ 2)) (p_ 1)) aL))))
  eY) aT)) { nx:=λ_ h=>Q .non h,rt:=Q} [c_ lx,c_ lk,c_ lh,c_ la,a_ (pv th),a_ (pv ho),b_,b_] hA:=λth ho=>by
  rfl';rw[aS];let xL:Ext hA (hA++[MO.lst [.str "a",.str "ab",.str "key",.str "b"]]):=H_ _;let gL:(hA++[MO.lst [.str "a",.str "ab",.str "key",.str "b"]])[hA.length]?=a_ (.lst [.str "a",.str "ab",.str "key",.str "b"]):=aU;simp;generalize hA.length=ll at gL;generalize hA++[MO.lst [.str "a",.str "ab",.str "key",.str "b"]]=hL at xL gL;let xx:=xA.trans xL;let⟨p,mp,ep⟩:=uB gL (by simp) v4;obtain⟨z,rfl⟩:∃z:Str,p=.str z:=by simp at mp;rcases mp with rfl|rfl|rfl|rfl <;> exact⟨_,rfl⟩
  let ep:vIx (.ref ll) (.int (v4%4)) hL=.ok (.str z) hL:=ep;simp(disch:=omega) [i4 xx,ep];rfl';rw[aS,fG];let vy:=sN xx tk;let⟨_,_,vj,_⟩:=fU vy;let hg:Iv (.ref lk) [pv ho,.str "map"] hL=.ok ((q0H (pv ho)).getD (.str "map")) hL:=XF vy rfl;obtain⟨z2,ez2⟩:∃z2:Str,(q0H (pv ho)).getD (.str "map")=.str z2:=by
   cases e:q0H (pv ho) with
   |none=>exact⟨_,rfl⟩
   |some v=>let⟨x,hx,rfl⟩:=Pg e;let⟨p,kk,rfl⟩:=fk x hx;show⟨kk,rfl⟩
  rw[ez2]at hg;by_cases c:z2="row"
  ·let⟨p3,m3,e3⟩:=uB (xx _ _ gh) cq v4;let⟨w3,_,rfl⟩:=y6.mp m3;rw[yh]at e3;let vc:(0:Int)<hs.length:=⋯;simp(disch:=omega) [vj,hg,eqs,c,i4 xx,i5 xx,sJ (xx _ _ gh),e3];show jy th ho (.place [.tup [.int 1,.str w3,.int (1+v5%9),.int 0]] (v5/16%2*2-1)) hL xx (by change _<=1000;simp) ⟨rfl,rfl⟩
  ·simp(disch:=omega) [vj,hg,eqs,c];show jy th ho (.key z) hL xx trivial trivial
 let mid:∀th:Nm,Lt (aZ (eJ (cJ (q0L (q1g (D_ (mV 0) (p_ 6)) (p_ 16)) (p_ 8)))
  (dI 5 (dW (aB (D_ (mV 2) (p_ 0)) (aB (aE cE (aE OA (p_ 10) (p_ 6)) (q1g (D_ (mV 0) (p_ 3)) (p_ 7))) aL))))
  eY) (aZ (dI 6 (D_ (oH (aB (mC (.str "a")) (aB (mC (.str "ab")) (aB (mC (.str "key")) (aB (mC (.str "b")) aL))))) (q1g (D_ (mV 0) (p_ 4)) (p_ 4))))
   (aZ (eJ (cJ (q0L (mMt lB Iv (mV 1) (aB (mV 5) (aB (mC (.str "map")) aL))) (mC (.str "row"))))
  (dI 6 (dW (aB (dW (aB (dW (aB (p_ 1) (aB (D_ (mV 2) (q1g (D_ (mV 0) (p_ 4)) (mCB pG (aB (mV 2) aL)))) (aB (aE cE (p_ 1) (q1g (D_ (mV 0) (p_ 5)) (p_ 9))) (aB (p_ 0) aL))))) aL)) (aB (aE Ic (aE Ie (q1g (aE G3 (D_ (mV 0) (p_ 5)) (p_ 16)) (p_ 2)) (p_ 2)) (p_ 1)) aL))))
  eY) aT))) { nx:=λ_ h=>Q .non h,rt:=Q} [c_ lx,c_ lk,c_ lh,c_ la,a_ (pv th),a_ (pv ho),b_,b_] hA:=λth=>by
  rfl';rw[aS,fG];by_cases c:v6%16=8
  ·simp(disch:=omega) [i6 xA,c,hw0 xA,i3 xA];show rest th (w0,1000000+v3%7)
  ·simp(disch:=omega) [i6 xA,c];show rest th ho
 rfl';rw[aS,fG];by_cases c:v6%16=7
 ·simp(disch:=omega) [i6 xA,c,hw0 xA,i2 xA];show mid (w0,1000000+v2%7)
 ·simp(disch:=omega) [i6 xA,c];show mid th
end
structure RD(rows:z_ Dd):Prop where
 da:∀d∈rows,Pf d.act/\d.nm≠root/\Wf d
 nd:(rows.map (·.nm)).Nodup
 cnt:∀d∈rows,d.nm.2<=((rows.filter λe=>decide (e.nm.1=d.nm.1)).length:Int)
theorem RD.nil:RD []:=⟨(λ_ h=>nomatch h),List.nodup_nil,λ_ h=>nomatch h⟩
variable{rows:z_ Dd}
theorem RD.snoc(r:RD rows){d:Dd}(ok:Pf d.act/\Wf d)(e:d.nm.2=1+((rows.filter λe=>decide (e.nm.1=d.nm.1)).length:Int)):RD (rows++[d]):=by
 let nr:d.nm≠root:=λz=>by
  have:d.nm.2=0:=by rw[z]
  omega
 refine⟨λx hx=>?_,?_,λx hx=>?_⟩
 ·rcases zf.mp hx with z|z
  ·show r.da x z
  ·rw[y0.mp z];show⟨ok.1,nr,ok.2⟩
 ·rw[y02,y1c];refine⟨r.nd,by simp,λa ha b hb z=>?_⟩;let⟨x,hx,rfl⟩:=y6.mp ha;let hb:b=d.nm:=by simpa using hb
  let e1:x.nm=d.nm:=z.trans hb;have:=r.cnt x hx;rw[e1]at this;omega
 ·rw[List.filter_append,y0z];rcases zf.mp hx with z|z
  ·have:=r.cnt x z;omega
  ·rw[y0.mp z];simp;omega
variable{A:z_ PV}
theorem V6(h:Pf A):WfA .other A/\A.all (PV.pl 37)=true:=by
 rcases h with⟨a,ok,rfl,ka⟩|⟨w,th,v,rfl,hw⟩
 ·let sp:∀s:Spot,Pd s->(spP s).pl 37=true:=λs h=>by
   cases s with
   |key z=>rfl
   |place u s=>exact h.2
  cases a with
  |make kd ho s=>exact⟨⟨_,_,rfl,by decide +kernel,by decide +kernel⟩,by simp[jT,sp s ka.2];show⟨rfl,rfl,rfl⟩⟩
  |move th ho s=>exact⟨⟨_,_,rfl,by decide +kernel,by decide +kernel⟩,by simp[jT,sp s ka];show⟨rfl,rfl,rfl⟩⟩
  |drop th=>exact⟨⟨_,_,rfl,by decide +kernel,by decide +kernel⟩,rfl⟩
 ·refine⟨⟨_,_,rfl,?_,?_⟩,rfl⟩ <;> rcases hw with rfl|rfl|rfl <;> decide +kernel
def SI(lh lx ls:Nat)(h:PH)(x0 x2 x3 x4 fi:A_ PV)(w:Str)(N:Int)(q:Nat)(δ:Ev)(h':PH):Prop:=∃(S:Seen)(x9 c5:A_ PV),S.length<=q/\(∀i o,i≠ls->h[i]?=a_ o->h'[i]?=a_ o)/\h'[ls]?=a_ (.lst ((S.map row).map tP))/\δ=[x0,c_ lh,x2,x3,x4,c_ lx,a_ (.str w),a_ (.tup [.str w,.int N]),c_ ls,x9,c5,fi]
variable{N:Int}{c5 x4 x9:A_ PV}{ls:Nat}
theorem V7{xs:z_ Int}{x0 fi:A_ PV}(mq:xs.length=10)(h6:hs.length<=3)(gx:h[lx]?=a_ (.lst (q1t 0)))(gh:h[lh]?=a_ (.lst (hs.map PV.str)))(gs:h[ls]?=a_ (.lst []))(nx:lx≠ls)(nh:lh≠ls)(k:∀(S:Seen) x9 c5 h',S.length<=3->(∀i o,i≠ls->h[i]?=a_ o->h'[i]?=a_ o)->h'[ls]?=a_ (.lst ((S.map row).map tP))->E.nx [x0,c_ lh,x2,x3,x4,c_ lx,a_ (.str w),a_ (.tup [.str w,.int N]),c_ ls,x9,c5,fi] h'):
  (rD (vN (aB (mCB pG (aB (mV 1) aL)) aL)) (gN 9) xW [x0,c_ lh,x2,x3,x4,c_ lx,a_ (.str w),a_ (.tup [.str w,.int N]),c_ ls,x9,c5,fi] h).W E:=by
 refine QM (j:=hs.length) (SI lh lx ls h x0 x2 x3 x4 fi w N) (by simp[sJ gh]) ⋯ ⟨[],_,_,yg _,λ_ _ _ e=>e,gs,rfl⟩ ?_ ?_
 ·rintro q δ h' hq ⟨S,x9,c5,lS,fr,g,rfl⟩;let iu:q<hs.length:=⋯;let gx':=q0M nx gx;let kh:=q0M nh gh;let ix:vIx (.ref lx) (.int (7+(q:Int))) h'=.ok (.int xs[7+q]) h':=by
   have:(7+(q:Int))=((7+q:Nat):Int):=⋯;rw[this,mE gx',BK ⋯];rfl
  let ih:vIx (.ref lh) (.int (q:Int)) h'=.ok (.str hs[q]) h':=by
   rw[mE kh,show atI (hs.map PV.str) (q:Int)=a_ (.str hs[q]) from lY (by simp[iu])]
   rfl
  generalize xs[7+q]=v at ix;generalize hs[q]=z at ih;unfold xW;rw[aS];simp(disch:=omega) [ix];let fin:∀m:Int,Lt (eJ (cJ (aE vGt (mV 10) (p_ 0))) (tM (mMt isL (onL fT) (mV 8) (aB (dW (aB (D_ (mV 1) (mV 9)) (aB (mV 10) aL))) aL))) eY) { nx:=SI lh lx ls h x0 x2 x3 x4 fi w N (q+1),ct:=SI lh lx ls h x0 x2 x3 x4 fi w N (q+1),rt:=E.rt,bk:=E.nx} [x0,c_ lh,x2,x3,x4,c_ lx,a_ (.str w),a_ (.tup [.str w,.int N]),c_ ls,d_ (q:Int),d_ m,fi] h':=λm=>by
   rfl';rw[fG];by_cases c:0<m
   ·let ap:=qC (p:=tP (row (z,m))) g (by simp;omega);rw[show(S.map row).map tP++[tP (row (z,m))]=((S++[(z,m)]).map row).map tP by simp]at ap;let lP:(S++[(z,m)]).length<=q+1:=by simp;omega
    generalize S++[(z,m)]=P at ap lP;let ap:onL fT (.ref ls) [.tup [.str z,.int m]] h'=.ok .non (h'.set ls (.lst ((P.map row).map tP))):=ap;let g':=eM (o':=MO.lst ((P.map row).map tP)) g;let xi:∀i o,i≠ls->h[i]?=a_ o->(h'.set ls (.lst ((P.map row).map tP)))[i]?=a_ o:=λi o hi e=>bQ (fr i o hi e) (y1o hi);generalize h'.set ls (.lst ((P.map row).map tP))=h2 at ap g' xi;simp[c,AB g,ih,ap];show⟨P,_,_,lP,xi,g',rfl⟩
   ·simp[c];show⟨S,_,_,⋯,fr,g,rfl⟩
  rfl';rw[aS,fG];by_cases c:z=w
  ·simp[ih,eqs,c];show fin (N-1)
  ·simp[ih,eqs,c];show fin (v%4)
 ·rintro δ h' ⟨S,x9,c5,lS,fr,g,rfl⟩;show k S _ _ h' (by have:(hs.length:Int).toNat=hs.length:=rfl;omega) fr g
theorem V8{κ:Type}[q0P 0]{kvs:z_ (κ×PV)}{k:κ}{p:PV}{e:κ×PV}(h:e∈lW kvs k p):(∃x∈kvs,e=x)\/e=(k,p):=by
 unfold lW at h;split at h
 ·let⟨y,hy,e1⟩:=y6.mp h;by_cases z:y.1=k
  ·rw[if_pos z]at e1;show .inr (by rw[<-e1,z])
  ·rw[if_neg z]at e1;show .inl ⟨y,hy,e1.symm⟩
 ·rcases zf.mp h with h|h
  ·show .inl ⟨e,h,rfl⟩
  ·show .inr (y0.mp h)
theorem XH{κ:Type}[q0P 0]{kvs:z_ (κ×PV)}{k:κ}{p:PV}(h:kvs≠[]):lW kvs k p≠[]:=by
 unfold lW;split
 ·simpa using h
 ·simp
def DIq(lc lh:Nat)(h:PH)(q:Nat)(δ:Ev)(h':PH):Prop:=∃rows,S1 h'/\h'[h.length+1]?=a_ (.lst (rows.map dP))/\KI h' h.length (q+1)/\RD rows/\rows.length=q/\∃x4 x5 x6 x7 x8 x9 c5 fi,δ=[c_ lc,c_ lh,q1b 0,c_ (h.length+1),x4,x5,x6,x7,x8,x9,c5,fi]
noncomputable def dE:Ms:=(aZ (eJ (cJ (q0L (D_ (mV 11) (p_ 0)) (mC (.str "make"))))
   (vS (D_ (mV 11) (p_ 1)) (mV 2) (mV 7))
   eY)
  (tM (mMt isL (onL fT) (mV 3) (aB (dW (aB (mV 7) (aB (mCB vM (aB (mCB rF (aB (mV 8) aL)) aL)) (aB (mV 11) aL)))) aL))))
variable{x5:A_ PV}
theorem Zp{lc:Nat}{q:Nat}(x:S1 h')(g:h'[h.length+1]?=a_ (.lst (rows.map dP)))(ki:KI h' h.length (q+1))(rd:RD rows)(lr:rows.length=q)(hq:q<=100)(gS:h'[ls]?=a_ (.lst ((S.map row).map tP)))(bs:h.length+1<ls)(lS:S.length<=3)(al:Pf A)(k:∀δ h',DIq lc lh h (q+1) δ h'->E.nx δ h'):(dE [c_ lc,c_ lh,q1b 0,c_ (h.length+1),x4,x5,a_ (.str w),a_ (.tup [.str w,.int (1+((rows.filter λe=>decide (e.nm.1=w)).length:Int))]),c_ ls,x9,c5,a_ (.tup A)] h').W E:=by
 let⟨wf,apl⟩:=V6 al;let fin:∀h2,S1 h2->h2[h.length+1]?=a_ (.lst (rows.map dP))->KI h2 h.length (q+2)->h2[ls]?=a_ (.lst ((S.map row).map tP))->Lt (tM (mMt isL (onL fT) (mV 3) (aB (dW (aB (mV 7) (aB (mCB vM (aB (mCB rF (aB (mV 8) aL)) aL)) (aB (mV 11) aL)))) aL))) E [c_ lc,c_ lh,q1b 0,c_ (h.length+1),x4,x5,a_ (.str w),a_ (.tup [.str w,.int (1+((rows.filter λe=>decide (e.nm.1=w)).length:Int))]),c_ ls,x9,c5,a_ (.tup A)] h2:=λh2 x2 g2 ki2 qj=>by
  let⟨S2,e2⟩:=P' S;let so:=Iz qj (by rw[yh];omega) (P8 S);rw[e2]at so;let lS2:S2.length=S.length:=by have:=congrArg y2i e2;rw[(lE _).length_eq,yh,yh]at this;show this.symm
  let x3:=Ext.app h2 [MO.lst ((S2.map row).map tP)];let gT:(h2++[MO.lst ((S2.map row).map tP)])[h2.length]?=a_ (.lst ((S2.map row).map tP)):=aU;generalize h2++[MO.lst ((S2.map row).map tP)]=hA at so x3 gT;let vt:=P9 gT;let g3:=x3 _ _ g2;let ap:=qC (p:=dP ⟨(w,1+((rows.filter λe=>decide (e.nm.1=w)).length:Int)),S2,.other,A⟩) g3 (by rw[yh];omega);rw[show rows.map dP++[dP ⟨(w,1+((rows.filter λe=>decide (e.nm.1=w)).length:Int)),S2,.other,A⟩]=(rows++[(⟨(w,1+((rows.filter λe=>decide (e.nm.1=w)).length:Int)),S2,.other,A⟩:Dd)]).map dP by simp]at ap;let xl:=rd.snoc (d:=⟨(w,1+((rows.filter λe=>decide (e.nm.1=w)).length:Int)),S2,.other,A⟩) ⟨al,by change S2.length<=100;omega,wf,apl⟩ rfl;let xc:(rows++[(⟨(w,1+((rows.filter λe=>decide (e.nm.1=w)).length:Int)),S2,.other,A⟩:Dd)]).length=q+1:=by simp[lr]
  generalize rows++[(⟨(w,1+((rows.filter λe=>decide (e.nm.1=w)).length:Int)),S2,.other,A⟩:Dd)]=R at ap xl xc;let ap:onL fT (.ref (h.length+1)) [.tup [.tup [.str w,.int (1+((rows.filter λe=>decide (e.nm.1=w)).length:Int))],sv S2,.tup A]] hA=.ok .non (hA.set (h.length+1) (.lst (R.map dP))):=ap;let xB:S1 (hA.set (h.length+1) (.lst (R.map dP))):=(x2.trans x3).setN ⋯;let gB:=eM (o':=MO.lst (R.map dP)) g3;let kB:KI (hA.set (h.length+1) (.lst (R.map dP))) h.length (q+2):=by let⟨kvs,t,a,b,c⟩:=(ki2.ext x3).ex;show⟨kvs,rP t λo ho=>bQ ho ⋯,a,b,c⟩
  generalize hA.set (h.length+1) (.lst (R.map dP))=hB at ap xB gB kB;rfl';simp[AB g2,so,vt,ap];show q0X ⟨R,xB,gB,kB,xl,xc,_,_,_,_,_,_,_,_,rfl⟩
 unfold dE;rw[aS,fG];let⟨kvs,t,ne,lk,fk⟩:=ki.ex;let dw:∀(v:Str) r,A=.str v::r->v≠"make" -> (eJ (cJ (q0L (D_ (mV 11) (p_ 0)) (mC (.str "make")))) (vS (D_ (mV 11) (p_ 1)) (mV 2) (mV 7)) eY [c_ lc,c_ lh,q1b 0,c_ (h.length+1),x4,x5,a_ (.str w),a_ (.tup [.str w,.int (1+((rows.filter λe=>decide (e.nm.1=w)).length:Int))]),c_ ls,x9,c5,a_ (.tup A)] h').W { E with nx:=Lt (tM (mMt isL (onL fT) (mV 3) (aB (dW (aB (mV 7) (aB (mCB vM (aB (mCB rF (aB (mV 8) aL)) aL)) (aB (mV 11) aL)))) aL))) E}:=λv r e hv=>by
  let e0:atI A 0=a_ (.str v):=by rw[e];show lY (i:=0) rfl
  rw[fG];simp[e0,eqs,hv];show fin h' x g ⟨kvs,t,ne,⋯,fk⟩ gS
 rw[<-fG];rcases al with⟨a,ok,rfl,ka⟩|⟨v,th,n,rfl,hv⟩
 ·cases a with
  |make kd ho sp=>
   let e0:atI (jT (.make kd ho sp)) 0=a_ (.str "make"):=lY (i:=0) rfl;let e1:atI (jT (.make kd ho sp)) 1=a_ (.str kd):=lY (i:=1) rfl;generalize jT (.make kd ho sp)=A at*;let hp:sO (.ref h.length) (.tup [.str w,.int (1+((rows.filter λe=>decide (e.nm.1=w)).length:Int))]) (.str kd) h'=a_ (h'.set h.length (.dD (lW kvs (.tup [.str w,.int (1+((rows.filter λe=>decide (e.nm.1=w)).length:Int))]) (.str kd)))):=DH t rfl ⋯;let⟨o,dq,_,_⟩:=fU t;rw[fG];simp[e0,eqs,e1];refine⟨_,hp,?_⟩;refine fin _ (x.setN (yg _)) (bQ g ⋯) ⟨_,AG (eM dq),XH ne,?_,λe he=>?_⟩ (bQ gS ⋯)
   ·have:=NP kvs (.tup [.str w,.int (1+((rows.filter λe=>decide (e.nm.1=w)).length:Int))]) (.str kd);omega
   ·rcases V8 he with⟨y,hy,rfl⟩|rfl
    ·show fk _ hy
    ·show⟨(w,_),kd,rfl⟩
  |move th ho sp=>exact dw _ _ rfl (by decide +kernel)
  |drop th=>exact dw _ _ rfl (by decide +kernel)
 ·show dw _ _ rfl (by rcases hv with rfl|rfl|rfl <;> decide +kernel)
theorem Se(cs:z_ Int)(nv:cs.length<=40)(hs:z_ Str)(h1:1<=hs.length)(h6:hs.length<=3)(lc lh:Nat)(h:PH)(gc:h[lc]?=a_ (.lst (cs.map PV.int)))(gh:h[lh]?=a_ (.lst (hs.map PV.str)))(Q:PV->PH->Prop)
  (k:∀rows l h',S1 h'->h'[l]?=a_ (.lst (rows.map dP))->RD rows->rows.length=cs.length->Q (.ref l) h'):(DK [.ref lc,.ref lh] h).W Q:=by
 refine eD ?_;let cq:hs.map PV.str≠[]:=by intro z;have:=congrArg y2i z;simp at this;rw[this]at h1;simp at h1
 unfold II;rw[aS];let u5:(h++[MO.dK []]).set h.length (MO.dD [(pv root,.str "map")])=h++[MO.dD [(pv root,.str "map")]]:=by simp
 let ph:putD (.tup [.str "",.int 0]) (.str "map") h.length (h++[MO.dK []])=.ok (.ref h.length) (h++[MO.dD [(pv root,.str "map")]]):=by let ht:cO (h++[MO.dK []]) h.length=a_ []:=IR aU;rw[<-u5];unfold putD;rw[if_pos (by rfl),ht];dsimp only;rw[if_pos (by rw[pI];decide)];rfl
 let xC:S1 (h++[MO.dD [(pv root,.str "map")]]):=H_ _;let kC:KI (h++[MO.dD [(pv root,.str "map")]]) h.length 1:=⟨_,AG aU,by simp,by simp,λe he=>⟨root,"map",k_ he⟩⟩;let lC:(h++[MO.dD [(pv root,.str "map")]]).length=h.length+1:=by simp
 simp[ph];generalize h++[MO.dD [(pv root,.str "map")]]=hC at xC kC lC;rfl';rw[aS];simp;rw[lC];let x0:Ext hC (hC++[MO.lst []]):=H_ _;let g0:(hC++[MO.lst []])[h.length+1]?=a_ (.lst (([]:z_ Dd).map dP)):=by rw[<-lC];show aU
 let k0:=kC.ext x0;let x0:=xC.trans x0;generalize hC++[MO.lst []]=hA at x0 g0 k0;rfl';rw[aS];refine By (n:=lc) (xs:=cs.map PV.int) (h1:=hA) (DIq lc lh h) (by simp) (x0 _ _ gc) ⟨[],x0,g0,k0,RD.nil,rfl,_,_,_,_,_,_,_,_,rfl⟩ ?_ ?_ ?_
 ·rintro q δ h' hq ⟨rows,x,_⟩;show x _ _ gc
 ·rintro q y δ h' hy ⟨rows,x,g,ki,rd,lr,x4,x5,x6,x7,x8,x9,c5,fi,rfl⟩;let hq:q<cs.length:=by have:=(xt.mp hy).1;simpa using this
  rw[yy]at hy;let⟨c,hc,rfl⟩:=zq.mp hy;refine⟨_,rfl,?_⟩;rw[show Hw=aZ (dI 5 (jB 2 sQ (aB (mV 4) (aB (p_ 10) aL)))) (aZ (dI 6 (D_ (mV 1) (q1g (D_ (mV 5) (p_ 0)) (mCB pG (aB (mV 1) aL))))) (aZ (dI 7 (dW (aB (mV 6) (aB (aE cE (p_ 1) (mCB pG (aB (gO [b_,a_ 6] (dM (mV 3)) (gN 0) (cJ (q0L (D_ (D_ (mV 0) (p_ 0)) (p_ 0)) (mV 1))) (mV 0)) aL))) aL)))) (aZ (dI 8 (oH aL)) (aZ (rD (vN (aB (mCB pG (aB (mV 1) aL)) aL)) (gN 9) xW) (aZ (dI 11 (jB 3 Kn (aB (mV 5) (aB (mV 2) (aB (mV 1) aL))))) dE))))) from rfl]
  rw[aS];simp;refine HE c 10 ⋯ h' _ λxs lx hB xB gx mq bx=>?_
  try simp
  let xx:=x.trans xB;let kh:=xx _ _ gh;let i0:vIx (.ref lx) (.int 0) hB=.ok (.int xs[0]) hB:=by
   have:=BK (xs:=xs) (i:=0) ⋯;rw[mE gx,show atI (q1t 0) 0=a_ (.int xs[0]) from this]
   rfl
  let b0:=bx xs[0] (zp _);generalize xs[0]=v0 at i0 b0;let⟨p,mp,ep⟩:=uB kh cq v0;let⟨w,_,rfl⟩:=y6.mp mp;rw[yh]at ep;let vc:(0:Int)<hs.length:=⋯;rfl';rw[aS];simp(disch:=omega) [i0,sJ kh,ep];rfl';rw[aS];let gB:=xB _ _ g;let jl:=sL (m:=mV 3) (js:=[b_,a_ 6]) (tg:=gN 0) (tst:=cJ (q0L (D_ (D_ (mV 0) (p_ 0)) (p_ 0)) (mV 1))) (elt:=mV 0) (δ:=[c_ lc,c_ lh,q1b 0,c_ (h.length+1),d_ c,c_ lx,a_ (.str w),x7,x8,x9,c5,fi]) (h:=hB) (h1:=hB) (n:=h.length+1) (ys:=rows) (emb:=dP)
   (λe=>if e.nm.1=w then a_ (dP e) else b_) (by simp) gB ⋯
   (λe he=>⟨[a_ (dP e),a_ (.str w)],by simp[nY],λh3 _=>by
    by_cases z:e.nm.1=w
    ·simp[z,dP0,pv0,eqs]
    ·simp[z,dP0,pv0,eqs]⟩)
  let ef:∀R:z_ Dd,(R.filterMap λe=>if e.nm.1=w then a_ (dP e) else b_)=(R.filter λe=>decide (e.nm.1=w)).map dP:=λR=>by
   induction R with
   |nil=>rfl
   |cons e R ih=>
    rw[y14,ih,List.filter_cons];by_cases z:e.nm.1=w <;> simp[z]
  rw[ef]at jl;let gF:(hB++[MO.lst ((rows.filter λe=>decide (e.nm.1=w)).map dP)])[hB.length]?=a_ (.lst ((rows.filter λe=>decide (e.nm.1=w)).map dP)):=aU;let xF:Ext hB (hB++[MO.lst ((rows.filter λe=>decide (e.nm.1=w)).map dP)]):=H_ _;generalize hB.length=lF at jl gF;generalize hB++[MO.lst ((rows.filter λe=>decide (e.nm.1=w)).map dP)]=hF at jl gF xF;let el:pG [.ref lF] hF=.ok (.int ((rows.filter λe=>decide (e.nm.1=w)).length:Int)) hF:=by
   have:=sJ gF
   rwa[yh]at this
  simp[jl,el];rfl';rw[aS];simp;let xS:Ext hF (hF++[MO.lst []]):=H_ _;let gS:(hF++[MO.lst []])[hF.length]?=a_ (.lst []):=aU;let bF:=((xB.trans xF)).len;let bl:=(xt.mp (xF _ _ gB)).1;let bx2:=(xt.mp (xF _ _ gx)).1;let bh:=(xt.mp (xF _ _ kh)).1;generalize hlS:hF.length=ls at gS bl bx2 bh bF;generalize hF++[MO.lst []]=hS at xS gS;rfl';rw[aS];let sg:=xF.trans xS;refine V7 mq h6 (sg _ _ gx) (sg _ _ kh) gS ⋯ ⋯ λS x9 c5 hT lS fr gT=>?_;let xT:Ext hB hT:=λi o e=>fr i o (by have:=(xt.mp (xF _ _ e)).1;omega) (sg _ _ e);let kT:=(ki.ext (xB.trans xT));rfl';rw[aS];simp;refine XG mq bx (xT _ _ gx) kT ⋯ (xT _ _ kh) h1 ⋯ _ λA hU xU al=>?_;rfl';let qy:=(xB.trans xT).trans xU;show Zp (x.trans qy) (qy _ _ g) (ki.ext qy) rd lr ⋯ (xU _ _ gT) ⋯ lS al λ_ _ z=>z
 ·rintro δ h' ⟨rows,x,g,ki,rd,lr,x4,x5,x6,x7,x8,x9,c5,fi,rfl⟩;rw[yh]at lr;rfl';simp;show k rows _ h' x g rd lr
variable{ys:z_ Dd}
theorem Sf{xs:z_ Dd}(hx:BI xs)(hy:BI ys)(nx:(xs.map (·.nm)).Nodup)(ny:(ys.map (·.nm)).Nodup)(hu:∀d∈xs,∀e∈xs,d.nm=e.nm->d=e)(h:∀d,d∈xs↔d∈ys):xs=ys:=by let n1:xs.Nodup:=(y0v.mp nx).imp λh e=>h (by rw[e]);let n2:ys.Nodup:=(y0v.mp ny).imp λh e=>h (by rw[e]);refine y1Y (le:=λa b:Dd=>fE (kyL b) (kyL a)=false) (λa b ha hb h1 h2=>?_) hx hy ((List.perm_ext_iff_of_nodup n1 n2).mpr h);show hu a ha b ((h b).mpr hb) (Mr _ _ (Aq rfl h2 h1))
theorem XJ(d:Dd)(hS:d.seen.length<=100)(h:PH)(Q:PV->PH->Prop)(k:∀h',S1 h'->Q (tP (kyL d)) h'):(Hx [dP d] h).W Q:=by
 refine eD ?_;let hc:=Hd (js:=[b_,b_]) (tg:=gTp 2 (gCn (gN 0) (gCn (gN 1) gNl))) (tst:=oI) (elt:=mV 1) (m:=D_ (mV 0) (p_ 1)) (δ:=[a_ (dP d)]) (h:=h) (h1:=h) (ys:=d.seen) (emb:=pv)
  (λq=>d_ q.2) (by simp[dP1,RP]) ⋯ (λq hq=>⟨[a_ (.str q.1),d_ q.2],by simp[nY,pv],λh3 _=>⟨rfl,by simp⟩⟩)
 let es:d.seen.filterMap (λq=>a_ (PV.int q.2))=(d.seen.map (·.2)).map PV.int:=by rw[filterMap_some,z7];rfl
 rw[es]at hc;let gs:(h++[MO.lst ((d.seen.map (·.2)).map PV.int)])[h.length]?=a_ (.lst ((d.seen.map (·.2)).map PV.int)):=aU;let xs:S1 (h++[MO.lst ((d.seen.map (·.2)).map PV.int)]):=H_ _;let vs:=JX gs;generalize h.length=l at hc gs vs;generalize h++[MO.lst ((d.seen.map (·.2)).map PV.int)]=hA at hc gs xs vs;unfold RG;simp[hc,vs,dP0,pv0,pv1];show k _ xs
theorem V9{ds:z_ Dd}(r:RD ds):∃f:Dd->A_ Act,∀d∈ds,DA d (f d)/\d.nm≠root/\Wf d:=by
 classical
 refine⟨λd=>if e:∃a,DA d (a_ a) then a_ e.choose else b_,λd hd=>⟨?_,(r.da d hd).2⟩⟩;by_cases e:∃a,DA d (a_ a)
 ·simp only[dif_pos e];show e.choose_spec
 ·simp only[dif_neg e];rcases(r.da d hd).1 with⟨a,h1,h2,h3⟩|h
  ·show(e ⟨a,h1,h2,h3⟩).elim
  ·show h
theorem inL(g:h[n]?=a_ (.lst [.str "make",.str "move",.str "drop"]))(x:Str):mG (.str x) (.ref n) h=.ok (.bl (decide (x="make" \/ x="move" \/ x="drop"))) h:=by rw[pT,R0 g,Uk g rfl rfl];simp
def TIq(f:Dd->A_ Act)(os:z_ Dd)(hB:PH)(lt lm lf lo:Nat)(x0 x1 x2 x3 x4:A_ PV)(q:Nat)(δ:Ev)(h':PH):Prop:=Ext hB h'/\q1j (hW f (q1d 0)).1 (hW f (q1d 0)).2/\h'[lo]?=a_ (.lst (os.map dP))/\∃x6,δ=[x0,x1,x2,x3,x4,c_ lt,x6,b_,b_,b_]
variable{hB:PH}
theorem Sg{f:Dd->A_ Act}(O:DOk f os){lt lo:Nat}(b1:hB.length<=lm)(b2:hB.length<=lf)(n1:lo≠lm)(n2:lo≠lf){x0:A_ PV}{q:Nat}{d:Dd}(hd:os[q]?=a_ d)(x:Ext hB h')(t:q1j (hW f (q1d 0)).1 (hW f (q1d 0)).2)(g:h'[lo]?=a_ (.lst (os.map dP)))(k:∀δ h',TIq f os hB lt lm lf lo x0 x1 x2 x3 x4 (q+1) δ h'->E.nx δ h'):(DQ [x0,x1,x2,x3,x4,c_ lt,a_ (dP d),b_,b_,b_] h').W E:=by
 let hq:=(xt.mp hd).1;let⟨nw,e1⟩:=NQ O hd;let P:=F6 O q;let D:=(O.da d (zi hd)).1;let e2:hW f (os.take (q+1))=st1 (hW f (q1d 0)).1 (hW f (q1d 0)).2 d.nm (f d):=by rw[e1,F5]
 let lt':(q1d 0).length<=60:=by rw[y03];have:=O.ln;omega
 unfold DQ;rw[fG];let xL:Ext h' (h'++[MO.lst [.str "make",.str "move",.str "drop"]]):=H_ _;let gL:(h'++[MO.lst [.str "make",.str "move",.str "drop"]])[h'.length]?=a_ (.lst [.str "make",.str "move",.str "drop"]):=aU;let tL:=t.ext xL;cases hx:f d with
 |none=>
  rw[hx]at D e2;let⟨w,th,v,ea,w3⟩:=(show LfA d.act from D)
  let ew:atI d.act 0=a_ (.str w):=by rw[ea];show lY (i:=0) rfl
  let il:=inL gL w;rw[decide_eq_false (VV w3).1]at il;simp[-pT,dP2,ew,il];let e2:hW f (os.take (q+1))=hW f (q1d 0):=e2;show q0X ⟨x.trans xL,by rw[e2];show tL,xL _ _ g,_,rfl⟩
 |some a=>
  rw[hx]at D e2;let⟨ok,ea,ka⟩:=D;let⟨w,r,e0,w3,_⟩:=S5 a;let ew:atI d.act 0=a_ (.str w):=by rw[ea,e0];show lY (i:=0) rfl
  let il:=inL gL w;rw[decide_eq_true w3]at il;let mh:=bZ (mm:="hear") (n:=1) (tb:=gG) (ms:=aB (mV 6) aL) (δ:=[x0,x1,x2,x3,x4,c_ lt,a_ (dP d),b_,b_,b_]) (h:=h'++[MO.lst [.str "make",.str "move",.str "drop"]]) (h1:=h'++[MO.lst [.str "make",.str "move",.str "drop"]]) (mo:=mV 5) (k:=lt) (f:=cY) (by simp) tL.ins zaV rfl;simp[-pT,dP2,ew,il,mh];let ed:dP d=.tup [pv d.nm,sv d.seen,.tup (jT a)]:=by unfold dP;rw[ea]
  rw[ed];refine NL tL P.T.nr (by have:=P.lM;omega) (by have:=P.lL;omega) d.nm _ a ok _ λh2 t2 k2=>?_;rw[<-ed];let e2:hW f (os.take (q+1))=((heard (hW f (q1d 0)).1 (hW f (q1d 0)).2 d.nm a).1,(heard (hW f (q1d 0)).1 (hW f (q1d 0)).2 d.nm a).2.1):=e2;show q0X ⟨λi o e=>k2 i o (by have:=(xt.mp e).1;omega) (by have:=(xt.mp e).1;omega) ((x.trans xL) _ _ e),by rw[e2];show t2,k2 _ _ n1 n2 (xL _ _ g),_,rfl⟩
def Zq:PV->PV
 |.tup xs=>.tup (xs.take 4)
 |v=>v
variable{vs:z_ PV}
theorem Sh{S:Md}(lv:vs.length=S.length)(p:∀i v,vs[i]?=a_ v->RwP S i v):vs.map Zq=S.map oP:=by
 apply y0D;intro i;rw[yy,yy];by_cases c:i<vs.length
 ·let e:vs[i]?=a_ vs[i]:=y10 c;let⟨x,cc,h1,h2,_⟩:=p i _ e;rw[e,h1,h2];rfl
 ·rw[y0U ⋯,y0U ⋯];rfl
theorem Si(hk:Pc kd){a b c cc:PV}(nc:mS cc=!pD kd){x0 x6 x8:A_ PV}(k:E.nx [x0,x1,x2,x3,x4,x5,x6,x7,x8,a_ (.tup [a,.str kd,b,c,cc])] h):(DR [x0,x1,x2,x3,x4,x5,x6,x7,x8,a_ (.tup [a,.str kd,b,c,cc])] h).W E:=by
 unfold DR;rw[aS,fG];let i1:yI [.tup [a,.str kd,b,c,cc],.ty "tuple"] h=.ok (.bl true) h:=(rfl);let i2:pG [.tup [a,.str kd,b,c,cc]] h=.ok (.int 5) h:=(rfl);let i3:vNe (.int 5) (.int 5) h=.ok (.bl false) h:=(rfl);simp[-QL,i1,i2,i3];rfl';rw[fG];let nb:∀u v:Bool,u=v->vNe (.bl u) (.bl v) h=.ok (.bl false) h:=λu v e=>by subst e;cases u <;> rfl
 rcases hk with rfl|rfl|hk
 ·let e1:mS cc=true:=by rw[nc];decide +kernel
  simp[eqs,e1,nb];show k
 ·let n0:¬ (yi "row")=yi "map" := by decide +kernel
  let e1:mS cc=true:=by rw[nc];decide +kernel
  simp[eqs,n0,e1,nb];show k
 ·let n0:¬ kd="map" := λz=>by rw[z]at hk;revert hk;decide +kernel
  let n1:¬ kd="row" := λz=>by rw[z]at hk;revert hk;decide +kernel
  let e1:mS cc=false:=by rw[nc,hk];rfl
  simp[eqs,n0,n1,e1,nb];show k
theorem NR{ds:z_ Dd}(nd:(ds.map (·.nm)).Nodup):∀d∈ds,∀e∈ds,d.nm=e.nm->d=e:=by
 induction ds with
 |nil=>intro d hd;cases hd
 |cons x r ih=>
  rw[yq,y1g]at nd;intro d hd e he z;rcases yr.mp hd with rfl|h2
  ·rcases yr.mp he with rfl|h3
   ·rfl
   ·show(nd.1 (y6.mpr ⟨e,h3,z.symm⟩)).elim
  ·rcases yr.mp he with rfl|h3
   ·show(nd.1 (y6.mpr ⟨d,h2,z⟩)).elim
   ·show ih nd.2 d h2 e h3 z
theorem Sj(L:z_ Nm):(L.map pv).all (PV.pl 39)=true:=by rw[y1];intro y hy;let⟨t,_,rfl⟩:=y6.mp hy;rfl
theorem KG{S:Md}(h:∀x∈S,x.2.st.pl 38=true):(S.map oP).all (PV.pl 39)=true:=by
 rw[y1];intro y hy;let⟨x,hx,rfl⟩:=y6.mp hy;let h1:(obN x.2.hd).pl 38=true:=by cases x.2.hd <;> rfl
 let h2:(pv x.1).pl 38=true:=rfl;let h3:(PV.str x.2.kd).pl 38=true:=rfl
 show[pv x.1,.str x.2.kd,obN x.2.hd,x.2.st].all (PV.pl 38)=true
 simp[h1,h2,h3,h x hx]
theorem V'{α β:Type}(f:α->β)(xs:z_ α)(lo hi:A_ Int):mT (xs.map f) lo hi=(mT xs lo hi).map f:=by unfold mT;simp[List.map_take,List.map_drop]
theorem Zr{α:Type}{xs:z_ α}:mT xs b_ (a_ 4)=xs.take 4:=by
 unfold mT HT.sIx;simp
 try omega
theorem Sk(h:PH):xY [] h=.ok (.tup [.ref h.length,.ref (h.length+1)]) (h++[.lst []]++[.lst []]):=by
 let w:(xY [] h).W λq h'=>q=.tup [.ref h.length,.ref (h.length+1)]/\h'=h++[.lst []]++[.lst []]:=by refine eD ?_;unfold IK;simp
 let⟨q,h',e,rfl,rfl⟩:=pH w;show e
noncomputable def lT:Ms:=
 (aZ (dI 5 (pC "Tree" 0 cT aL))
 (aZ (rD (dM (zM Hx false (mV 3))) (gN 6) DQ)
 (aZ (AA (jB 2 F2 (aB (IG xY) (aB (mV 4) aL))) (gTp 2 (gCn (gN 7) (gCn (gN 8) gNl))))
 (aZ (eJ (JQ (vL (cJ (mCB yI (aB (mV 7) (aB (mC (.ty "list")) aL))))) (JQ (vL (cJ (mCB yI (aB (mV 8) (aB (mC (.ty "list")) aL))))) (cJ (aE vNe (mV 8) (eL "lost" 0 pN (mV 5) aL)))))
  (cI (mC (.bl false)))
  eY)
 (aZ (rD (dM (mV 7)) (gN 9) DR)
 (cI (q0L (gO [b_] (dM (mV 7)) (gN 0) oI (mSl (mV 0) rC (mP (p_ 4)))) (eL "rows" 0 eC (mV 5) aL))))))))
variable{hl:z_ Dd}
theorem VW{ds:z_ Dd}(R:RD ds)(ln:ds.length<=40)(hm:∀d,d∈hl↔d∈ds)(lh:hl.length<=60){l4:Nat}(gd:h[ld]?=a_ (.lst (ds.map dP)))(g4:h[l4]?=a_ (.lst (hl.map dP))){x0:A_ PV}(k:∀h,E.rt (.bl true) h):(lT [x0,x1,x2,c_ ld,c_ l4,b_,b_,b_,b_,b_] h).W E:=by
 let⟨f,hf⟩:=V9 R;unfold lT;rw[aS];let⟨h1,e1,t1,v9⟩:=NN [x0,x1,x2,c_ ld,c_ l4,b_,b_,b_,b_,b_] h;simp[-fI,e1];rfl';rw[aS];let qx:=(xt.mp t1.fail).1;let⟨v,h2,e2,os,lo,rfl,wg,b2,g2,pm,br⟩:=pH (Nz (f:=Hx) (b:=false) (x:=.ref ld) (h:=h1) (key:=kyL) (emb:=dP) (xs:=ds) (S:=shape [.inl 0,.inr "",.inl 0]) (Q:=λv h'=>∃os l,v=.ref l/\Ext h1 h'/\h1.length<=l/\h'[l]?=a_ (.lst (os.map dP))/\os.Perm ds/\BI os) (EM (v9 _ _ gd)) ⋯ (NI ds) (λ_ _=>rfl) (Kt kyL Mr R.nd) (λd hd h Q kk=>XJ d (hf d hd).2.2.len h Q kk) λos h' x p ho=>⟨os,_,rfl,x.trans (H_ _),x.len,aU,p,ho⟩);let nd:(os.map (·.nm)).Nodup:=(pm.map _).nodup_iff.mpr R.nd;let O:DOk f os:=⟨λd hd=>hf d (pm.mem_iff.mp hd),nd,by rw[pm.length_eq];omega⟩;refine By (n:=lo) (xs:=os.map dP) (h1:=h2) (TIq f os h h.length (h.length+1) (h.length+2) lo x0 x1 x2 (c_ ld) (c_ l4)) (by simp[e2]) g2 ⟨v9.trans wg,t1.ext wg,g2,_,rfl⟩ (λq δ h' _ i=>i.2.2.1) ?_ ?_
 ·rintro q y δ h' hy ⟨x,t,g,x6,rfl⟩;rw[yy]at hy;let⟨d,hd,rfl⟩:=zq.mp hy;show⟨_,rfl,Sg O ⋯ ⋯ ⋯ ⋯ hd x t g λ_ _ z=>z⟩
 ·rintro δ h' ⟨x,t,g,x6,rfl⟩;rw[yh,y2c]at t;let P:=F6 O os.length;rw[y2c]at P;rfl';rw[aS];let e0:=Sk h';let xE:Ext h' (h'++[MO.lst []]++[MO.lst []]):=(H_ _).trans (H_ _);let ga:(h'++[MO.lst []]++[MO.lst []])[h'.length]?=a_ (.lst []):=H_ _ _ _ aU;let gb:(h'++[MO.lst []]++[MO.lst []])[h'.length+1]?=a_ (.lst []):=by
   have:h'.length+1=(h'++[MO.lst []]).length:=by simp
   rw[this];show aU
  generalize h'++[MO.lst []]++[MO.lst []]=hE at e0 xE ga gb;let⟨v,hF,eF,l1,l2,vs,rfl,xF,gv,lv,pv1,gl⟩:=pH (V5 (f:=f) (ds:=hl) (λd hd=>hf d ((hm d).mp hd)) ⋯ (λd hd e he=>NR R.nd d ((hm d).mp hd) e ((hm e).mp he)) ga gb (xE _ _ (x _ _ g4)) (λv h3=>∃l1 l2 vs,v=.tup [.ref l1,.ref l2]/\Ext hE h3/\h3[l1]?=a_ (.lst vs)/\vs.length=(fO pO (hW f os).1).length/\(∀i v,vs[i]?=a_ v->RwP (fO pO (hW f os).1) i v)/\h3[l2]?=a_ (.lst ((hW f os).2.map pv))) λos2 l1 l2 vs h3 x3 O2 m2 br2 g1 lv pv1 gl=>by
   have:os2=os:=Sf br2 br O2.nd nd (λd hd e he=>NR O2.nd d hd e he) λd=>by rw[m2,hm,pm.mem_iff]
   subst this;show⟨l1,l2,vs,rfl,x3,g1,lv,pv1,gl⟩)
  simp[e0,eF];let tF:=t.ext (xE.trans xF);let pS:(fO pO (hW f os).1).Perm (hW f os).1:=qE _;let kS:∀x∈fO pO (hW f os).1,Pc x.2.kd/\x.2.st.pl 38=true:=λx hx=>P.kd x (pS.mem_iff.mp hx);let lM:(hW f os).1.length<64:=by have:=P.lM;have:=O.ln;omega
  rfl';rw[aS,fG];let i1:yI [.ref l1,.ty "list"] hF=.ok (.bl true) hF:=by rw[JU gv];rfl
  let i2:yI [.ref l2,.ty "list"] hF=.ok (.bl true) hF:=by rw[JU gl];rfl
  let ml:=bZ (mm:="lost") (n:=0) (tb:=pN) (ms:=aL) (δ:=[x0,x1,x2,c_ ld,c_ l4,q1b 0,x6,c_ l1,c_ l2,b_]) (h:=hF) (h1:=hF) (mo:=mV 5) (k:=h.length) (f:=fW) (by simp) tF.ins (by simp[pN]) rfl;let xG:Ext hF (hF++[MO.lst ((hW f os).2.map pv)]):=H_ _;let nl:=Um (xG _ _ gl) aU (Sj _) (Sj _);simp at nl;simp[i1,i2,ml,KF tF,nl];let tG:=tF.ext xG;let qv:=xG _ _ gv;generalize hF++[MO.lst ((hW f os).2.map pv)]=hG at xG tG qv;rfl';rw[aS];refine By (n:=l1) (xs:=vs) (h1:=hG) (λq δ h'=>h'=hG/\∃x9,δ=[x0,x1,x2,c_ ld,c_ l4,q1b 0,x6,c_ l1,c_ l2,x9]) (by simp) qv ⟨rfl,_,rfl⟩ (λq δ h' _ i=>i.1▸qv) ?_ ?_
  ·rintro q y δ h3 hy ⟨rfl,x9,rfl⟩;let⟨z,cc,h1,rfl,nc⟩:=pv1 q y hy;show⟨_,rfl,Si (kS z (zi h1)).1 nc ⟨rfl,_,rfl⟩⟩
  ·rintro δ h3 ⟨rfl,x9,rfl⟩;rfl';let hc:=sL (m:=mV 7) (js:=[b_]) (tg:=gN 0) (tst:=oI) (elt:=mSl (mV 0) rC (mP (p_ 4))) (δ:=[x0,x1,x2,c_ ld,c_ l4,q1b 0,x6,c_ l1,c_ l2,x9]) (h:=h3) (h1:=h3) (n:=l1) (ys:=vs) (emb:=id) (λv=>a_ (Zq v)) (by simp) (k_ qv) (by rw[lv,pS.length_eq];omega)
    (λv hv=>by let⟨i,hi,e⟩:=List.mem_iff_getElem.mp hv;let⟨z,cc,_,e2,_⟩:=pv1 i v (by rw[y10 hi,e]);show⟨[a_ v],by simp[nY],λh _=>⟨rfl,by rw[e2];simp[mT,HT.sIx];rfl⟩⟩)
   rw[filterMap_some,Sh lv pv1]at hc;let gC:(h3++[MO.lst ((fO pO (hW f os).1).map oP)])[h3.length]?=a_ (.lst ((fO pO (hW f os).1).map oP)):=aU;let xC:Ext h3 (h3++[MO.lst ((fO pO (hW f os).1).map oP)]):=H_ _;generalize h3.length=l5 at hc gC;generalize h3++[MO.lst ((fO pO (hW f os).1).map oP)]=hC at hc gC xC;let tC:=tG.ext xC;let mr:=bZ (mm:="rows") (n:=0) (tb:=eC) (ms:=aL) (δ:=[x0,x1,x2,c_ ld,c_ l4,q1b 0,x6,c_ l1,c_ l2,x9]) (h:=hC) (h1:=hC) (mo:=mV 5) (k:=h.length) (f:=eX) (by simp) tC.ins trT rfl;simp[hc,mr];refine KD tC P.nd lM _ λl6 hD xD gD=>?_;let eq:=Ul (xD _ _ gC) gD (KG λx hx=>(kS x hx).2) (KG λx hx=>(kS x hx).2);simp[eq];show k _
theorem main(ns:z_ Int)(hl:ns.length<=63):∃h,RJ [.fl (q1s 0)] []=.ok (.bl true) h:=by
 let w:(RJ [.fl (q1s 0)] []).W λp _=>p=.bl true:=by
  refine eD ?_;unfold RI;rw[aS];let c0:=UI ns 0;simp only[Int.cast_ofNat_Int]at c0;simp(disch:=omega) [c0];generalize cell ns 0=c at c0;obtain⟨m,em⟩:∃m:Nat,1+c/24%3=(m:Int):=⟨(1+c/24%3).toNat,⋯⟩;let hm:1<=m/\m<=3:=⋯;rfl';rw[aS];simp(disch:=omega) [em];refine S0 c m ⋯ _ _ λhs lh hA gh lhs=>?_
  try simp
  rfl';rw[aS];simp[V'];let gc:(hA++[MO.lst ((mT ns (a_ 1) (a_ 41)).map PV.int)])[hA.length]?=a_ (.lst ((mT ns (a_ 1) (a_ 41)).map PV.int)):=aU;let xC:Ext hA (hA++[MO.lst ((mT ns (a_ 1) (a_ 41)).map PV.int)]):=H_ _;let n9:(mT ns (a_ 1) (a_ 41)).length<=40:=by simp[mT,HT.sIx];omega
  generalize hA.length=lc at gc;generalize hA++[MO.lst ((mT ns (a_ 1) (a_ 41)).map PV.int)]=hC at gc xC;generalize mT ns (a_ 1) (a_ 41)=cs at gc n9;refine Se cs n9 hs ⋯ ⋯ lc lh hC gc (xC _ _ gh) _ λds ld hE xE ge R lr=>?_
  try simp
  rfl';rw[aS];simp[nZ ge];let x4:Ext hE (hE++[MO.lst (ds.map dP)]):=H_ _;let g4:(hE++[MO.lst (ds.map dP)])[hE.length]?=a_ (.lst (ds.map dP)):=aU;let gd:=x4 _ _ ge;generalize hE.length=l4 at g4;generalize hE++[MO.lst (ds.map dP)]=hF at x4 g4 gd;rfl';rw[aS,fG];by_cases cc:c/72%2=1
  ·let e1:=OS gd;let g5:(hF++[MO.lst (ds.map dP).reverse])[hF.length]?=a_ (.lst (ds.map dP).reverse):=aU;let x5:Ext hF (hF++[MO.lst (ds.map dP).reverse]):=H_ _;generalize hF.length=l5 at e1 g5;generalize hF++[MO.lst (ds.map dP).reverse]=hG at e1 g5 x5;let e2:=Ip (lo:=b_) (hi:=a_ 4) (x5 _ _ gd);rw[Zr]at e2;let g6:(hG++[MO.lst ((ds.map dP).take 4)])[hG.length]?=a_ (.lst ((ds.map dP).take 4)):=aU;let x6:Ext hG (hG++[MO.lst ((ds.map dP).take 4)]):=H_ _;generalize hG.length=l6 at e2 g6;generalize hG++[MO.lst ((ds.map dP).take 4)]=hH at e2 g6 x6;let e3:=BC (x6 _ _ g5) g6 (by simp;omega);let ee:(ds.map dP).reverse++(ds.map dP).take 4=(ds.reverse++ds.take 4).map dP:=by rw[y02,List.map_reverse,List.map_take]
   rw[ee]at e3;let mm:∀d,d∈ds.reverse++ds.take 4↔d∈ds:=λd=>by rw[zf,List.mem_reverse];show⟨λz=>z.elim id List.mem_of_mem_take,.inl⟩
   let ll:(ds.reverse++ds.take 4).length<=60:=by simp;omega
   generalize ds.reverse++ds.take 4=cm at e3 mm ll;let g7:(hH++[MO.lst (cm.map dP)])[hH.length]?=a_ (.lst (cm.map dP)):=aU;let xh:=Ext.app hH [MO.lst (cm.map dP)] _ _ ((x5.trans x6) _ _ gd);generalize hH.length=l7 at e3 g7;generalize hH++[MO.lst (cm.map dP)]=hI at e3 g7 xh;simp(disch:=omega) [cc,e1,e2,e3];show now (VW R ⋯ mm ll xh g7 λ_=>rfl)
  ·simp(disch:=omega) [cc];show now (VW R ⋯ (λ_=>Iff.rfl) ⋯ gd g4 λ_=>rfl)
 let⟨p,h,e,rfl⟩:=pH w;show⟨h,e⟩
def top(i:Nat):y_:=PySem.Challenge.pw_copymeet_k62_things_as_a_tree_has_them.main.body.getD i (.Pass ⟨0,0,0,0⟩)
abbrev bsL:z_ Str:=["len","range","list","sorted","tuple","sum","str","isinstance","reversed"]
abbrev cC(w:w4)(K:yb)(cl:Str->A_ td):MC:=⟨K,cl,bsL,λ_ _ _=>False,w⟩
abbrev clF(cK bV iF fM fN sA bE bS:td):Str->A_ td:=λz=>if z=("Count" : Str) then a_ cK else if z=("Choice" : Str) then a_ bV else if z=("Bag" : Str) then a_ iF else if z=("Marks" : Str) then a_ fM else if z=("Signs" : Str) then a_ fN else if z=("Text" : Str) then a_ sA else if z=("Tree" : Str) then a_ bE else if z=("Folding" : Str) then a_ bS else b_
def FnX(K:yb)(f:td)(nm qual:Str)(st:y_):Prop:=∃oc kV doc pm cdv ct od an osl,K.lookup f=a_ ⟨oc,od,.func (y04 nm qual (lX st) (jP st) (aO st) .none kV doc pm an cdv ct),osl⟩/\y2w K cdv qual=true/\Io K (.ref f)=true
def MtX(K:yb)(A:td)(nm qual:Str)(st:y_):Prop:=∃f,q1k (.ref A) nm=a_ (c_ f)/\PySem.W.isFn K (.ref f)=true/\FnX K f nm qual st
def DfX(K:yb)(nm:Str)(st:y_):Prop:=∃f,y05 K z6 nm=a_ (c_ f)/\FnX K f nm nm st
def BdX(nm qual:Str)(st:y_)(ps:z_ Str):Prop:=∀(kV doc pm:r_)(an:A_ td)(cdv ct:r_)(us:z_ r_),us.length=ps.length->bindArgs (y04 nm qual (lX st) (jP st) (aO st) .none kV doc pm an cdv ct) ⟨us,[]⟩=pure (ps.zip us)
abbrev tMt(P:w_)(w:w4)(K:yb)(mg:n_ 0)(base:v_)(cl:Str->A_ td)(j:Nat)(A:td)(nm:Str)(ps:z_ Str)(n:Nat)(m:Fn):Prop:=∃g fd,HK K A nm g/\q_ j g fd ps (spM (B_ 0) n m)/\Binds K fd ps []
abbrev tMk(P:w_)(w:w4)(K:yb)(mg:n_ 0)(base:v_)(cl:Str->A_ td)(j:Nat)(A:td)(nm:Str)(ps:z_ Str)(n:Nat)(m:Fn):Prop:=∃g fd,HK K A nm g/\q_ j g fd ps (spM (B_ 0) n m)/\Binds K fd ps []/\Mk K A g
abbrev yB:y_:=top 37
theorem Mw:aV ["_law_script","_law_k"] ["_law_script","_law_k"] (aO yB):=i_ 0
abbrev AV:y_:=top 38
theorem sS:aV ["_law_cell","_law_many","_law_found","_law_number","_law_k"] ["_law_cell","_law_many"] (aO AV):=i_ 0
abbrev DV:y_:=top 39
theorem sT:aV ["_law_cell","_law_many","_law_letters","_law_xs","_law_stem","_law_at"] ["_law_cell","_law_many"] (aO DV):=i_ 0
abbrev F7:z_ Str:=["_law_x","_law_letters"]
theorem KH:(F7).Nodup:=by decide +kernel
abbrev F8:z_ Str:=["_law_k","_law_stem","_law_xs"]
theorem KJ:(F8).Nodup:=by decide +kernel
abbrev F9:z_ Str:=["_law_k","_law_stem","_law_letters","_law_at","_law_xs"]
theorem KL:(F9).Nodup:=by decide +kernel
abbrev NS:y_:=top 40
theorem uC:aV ["_law_xs","_law_kinds","_law_hands_here","_law_names","_law_thing","_law_holder","_law_spot","_law_kind"] ["_law_xs","_law_kinds","_law_hands_here"] (aO NS):=i_ 0
abbrev DW:y_:=top 41
theorem iN:aV ["_law_cells","_law_hands_here","_law_kinds","_law_rows","_law_cell","_law_xs","_law_hand","_law_name","_law_seen","_law_k","_law_number","_law_act_here"] ["_law_cells","_law_hands_here"] (aO DW):=i_ 0
abbrev Fb:z_ Str:=["_law_deed","_law_hand"]
theorem KM:(Fb).Nodup:=by decide +kernel
abbrev oQ:y_:=inClass (top 29) 0
theorem BM:aV ["self"] ["self"] (aO oQ):=i_ 0
abbrev NT:y_:=top 42
theorem XM:aV ["_law_deed"] ["_law_deed"] (aO NT):=i_ 0
abbrev KN:z_ Str:=["_law_hand","_law_number"]
theorem HH:(KN).Nodup:=by decide +kernel
abbrev uD:y_:=inClass (top 9) 1
theorem yX:aV ["self","deed","act"] ["self","deed"] (aO uD):=i_ 0
abbrev AW:y_:=top 3
theorem BN:aV ["seen","name","hand","n"] ["seen","name"] (aO AW):=i_ 0
abbrev sC:y_:=inClass (top 10) 1
theorem jI:aV ["self","deed","name","seen","act","unseen"] ["self","deed"] (aO sC):=i_ 0
abbrev sU:z_ Str:=["row","seen"]
theorem AX:(sU).Nodup:=by decide +kernel
abbrev zW:y_:=inClass (top 11) 1
theorem rQ:aV ["self","deed","name","seen","act"] ["self","deed"] (aO zW):=i_ 0
abbrev qO:y_:=inClass (top 29) 6
theorem D1:aV ["self","thing"] ["self","thing"] (aO qO):=i_ 0
abbrev uE:y_:=inClass (top 29) 4
theorem G5:aV ["self","holder","spot"] ["self","holder","spot"] (aO uE):=i_ 0
abbrev uF:y_:=top 15
theorem oE:aV ["spot","name","under","side","hand","n"] ["spot","name"] (aO uF):=i_ 0
abbrev uG:y_:=top 30
theorem KO:aV ["spot","name"] ["spot","name"] (aO uG):=i_ 0
abbrev nD:y_:=inClass (top 29) 2
theorem fX:aV ["self","name","act","word","kind","holder","spot"] ["self","name","act"] (aO nD):=i_ 0
abbrev zX:y_:=inClass (top 29) 5
theorem KQ:aV ["self","thing","holder","spot"] ["self","thing","holder","spot"] (aO zX):=i_ 0
abbrev wF:y_:=inClass (top 29) 8
theorem pP:aV ["self","thing","holder","way","upper"] ["self","thing","holder"] (aO wF):=i_ 0
abbrev nE:y_:=inClass (top 29) 3
theorem fY:aV ["self","name","act","word","thing","holder","spot"] ["self","name","act"] (aO nE):=i_ 0
abbrev wG:y_:=inClass (top 29) 1
theorem pQ:aV ["self","deed","name","seen","act"] ["self","deed"] (aO wG):=i_ 0
abbrev nF:y_:=inClass (top 9) 0
theorem AY:aV ["self"] ["self"] (aO nF):=i_ 0
abbrev mL:y_:=inClass (top 10) 0
theorem zY:aV ["self"] ["self"] (aO mL):=i_ 0
abbrev qP:y_:=inClass (top 11) 0
theorem D2:aV ["self"] ["self"] (aO qP):=i_ 0
abbrev nG:y_:=inClass (top 21) 0
theorem AZ:aV ["self"] ["self"] (aO nG):=i_ 0
abbrev nH:y_:=inClass (top 19) 0
theorem B0:aV ["self"] ["self"] (aO nH):=i_ 0
abbrev oR:y_:=inClass (top 23) 0
theorem BO:aV ["self"] ["self"] (aO oR):=i_ 0
abbrev yC:y_:=top 26
theorem Mx:aV ["kind"] ["kind"] (aO yC):=i_ 0
abbrev kR:y_:=inClass (top 33) 1
theorem pE:aV ["self","thing","kind","leaf"] ["self","thing","kind"] (aO kR):=i_ 0
abbrev kF:y_:=inClass (top 33) 3
theorem jJ:aV ["self","deed","fate","act"] ["self","deed"] (aO kF):=i_ 0
abbrev uH:y_:=top 27
theorem KR:aV ["word"] ["word"] (aO uH):=i_ 0
abbrev qQ:y_:=inClass (top 33) 2
theorem uY:aV ["self","deed","act"] ["self","deed"] (aO qQ):=i_ 0
abbrev wH:y_:=inClass (top 29) 12
theorem mM:aV ["self","rows","lost","thing","kind","holder","spot"] ["self","rows","lost"] (aO wH):=i_ 0
abbrev kU:y_:=inClass (top 33) 0
theorem cA:aV ["self","base","rows","lost","thing","kind","holder","spot","content"] ["self","base"] (aO kU):=i_ 0
abbrev mQ:z_ Str:=["row"]
theorem uI:(mQ).Nodup:=by decide +kernel
abbrev DX:y_:=top 4
theorem Sl:aV ["deed"] ["deed"] (aO DX):=i_ 0
abbrev Fc:z_ Str:=["pair"]
theorem KS:(Fc).Nodup:=by decide +kernel
abbrev IS:y_:=top 5
theorem IT:aV ["deed","hand","n"] ["deed"] (aO IS):=i_ 0
abbrev uJ:y_:=top 6
theorem wI:aV ["deeds","by_name","deed"] ["deeds"] (aO uJ):=i_ 0
abbrev oS:y_:=inClass (top 9) 3
theorem BP:aV ["self"] ["self"] (aO oS):=i_ 0
abbrev nI:y_:=inClass (top 10) 3
theorem B1:aV ["self"] ["self"] (aO nI):=i_ 0
abbrev sD:y_:=inClass (top 11) 3
theorem Fd:aV ["self"] ["self"] (aO sD):=i_ 0
abbrev uK:y_:=inClass (top 19) 6
theorem G6:aV ["self"] ["self"] (aO uK):=i_ 0
abbrev uZ:z_ Str:=["mark"]
theorem BQ:(uZ).Nodup:=by decide +kernel
abbrev yD:y_:=top 13
theorem My:aV ["place"] ["place"] (aO yD):=i_ 0
abbrev uL:y_:=top 14
theorem KU:aV ["row"] ["row"] (aO uL):=i_ 0
abbrev uM:y_:=inClass (top 21) 4
theorem G7:aV ["self"] ["self"] (aO uM):=i_ 0
abbrev rR:y_:=top 31
theorem IU:aV ["row"] ["row"] (aO rR):=i_ 0
abbrev wJ:y_:=inClass (top 29) 11
theorem IV:aV ["self"] ["self"] (aO wJ):=i_ 0
abbrev wK:z_ Str:=["thing","row"]
theorem vA:(wK).Nodup:=by decide +kernel
abbrev qR:y_:=inClass (top 23) 5
theorem D3:aV ["self"] ["self"] (aO qR):=i_ 0
abbrev jK:y_:=inClass (top 33) 5
theorem vD:aV ["self","thing"] ["self","thing"] (aO jK):=i_ 0
abbrev wL:y_:=inClass (top 29) 10
theorem IW:aV ["self"] ["self"] (aO wL):=i_ 0
abbrev qS:y_:=inClass (top 33) 4
theorem D4:aV ["self"] ["self"] (aO qS):=i_ 0
abbrev rS:z_ Str:=["row","self"]
theorem zZ:(rS).Nodup:=by decide +kernel
abbrev IX:y_:=top 35
theorem IY:aV ["base","deeds","folding","deed"] ["base","deeds"] (aO IX):=i_ 0
abbrev DY:y_:=top 34
theorem Sm:aV [] [] (aO DY):=i_ 0
abbrev B2:y_:=top 43
theorem qT:aV ["_law_script","_law_first","_law_hands_here","_law_deeds_here","_law_handed","_law_tree","_law_deed","_law_rows","_law_lost","_law_row"] ["_law_script"] (aO B2):=i_ 0
abbrev KW:z_ Str:=["_law_row"]
theorem Ph:(KW).Nodup:=by decide +kernel
theorem uN:("len" : Str)∈bsL:=(.head _)
theorem B3:("range" : Str)∈bsL:=(.tail _ (.head _))
theorem nT:("list" : Str)∈bsL:=(.tail _ (.tail _ (.head _)))
theorem sV:("sorted" : Str)∈bsL:=(.tail _ (.tail _ (.tail _ (.head _))))
theorem KY:("tuple" : Str)∈bsL:=(.tail _ (.tail _ (.tail _ (.tail _ (.head _)))))
theorem Sn:("sum" : Str)∈bsL:=(.tail _ (.tail _ (.tail _ (.tail _ (.tail _ (.head _))))))
theorem So:("str" : Str)∈bsL:=(.tail _ (.tail _ (.tail _ (.tail _ (.tail _ (.tail _ (.head _)))))))
theorem kJ:("isinstance" : Str)∈bsL:=(.tail _ (.tail _ (.tail _ (.tail _ (.tail _ (.tail _ (.tail _ (.head _))))))))
section
variable{P:w_}{w:w4}{K:yb}{mg:n_ 0}{base:v_}{cl:Str->A_ td}
variable(P w K mg base cl)
abbrev Fe:Prop:=∃a fd,q0T "_law_cell_at" yB a fd ["_law_script","_law_k"]/\q_ 1 a fd ["_law_script","_law_k"] (spM (B_ 0) 2 sP)
abbrev BR:Prop:=∃a fd,q0T "_law_stream" AV a fd ["_law_cell","_law_many"]/\q_ 1 a fd ["_law_cell","_law_many"] (spM (B_ 0) 2 sQ)
abbrev KZ:Prop:=∃a fd,q0T "_law_hands" DV a fd ["_law_cell","_law_many"]/\q_ 2 a fd ["_law_cell","_law_many"] (spM (B_ 0) 2 DJ)
abbrev Sq:Prop:=∃a fd,q0T "_law_act" NS a fd ["_law_xs","_law_kinds","_law_hands_here"]/\q_ 1 a fd ["_law_xs","_law_kinds","_law_hands_here"] (spM (B_ 0) 3 Kn)
abbrev L0:Prop:=∃a fd,q0T "_law_deeds" DW a fd ["_law_cells","_law_hands_here"]/\q_ 2 a fd ["_law_cells","_law_hands_here"] (spM (B_ 0) 2 DK)
abbrev Sr:Prop:=∃a fd,q0T "_law_key" NT a fd ["_law_deed"]/\q_ 1 a fd ["_law_deed"] (spM (B_ 0) 1 Hx)
abbrev HI:Prop:=∃a fd,q0T "covers" AW a fd ["seen","name"]/\q_ 1 a fd ["seen","name"] (spM (B_ 0) 2 qI)
abbrev CT:Prop:=∃a fd,q0T "place_of" uF a fd ["spot","name"]/\q_ 1 a fd ["spot","name"] (spM (B_ 0) 2 qK)
abbrev wM:Prop:=∃a fd,q0T "stand_of" uG a fd ["spot","name"]/\q_ 2 a fd ["spot","name"] (spM (B_ 0) 2 kN)
abbrev Ff:Prop:=∃a fd,q0T "leaf_of" yC a fd ["kind"]/\q_ 5 a fd ["kind"] (spM (B_ 0) 1 pU)
abbrev CU:Prop:=∃a fd,q0T "kind_for" uH a fd ["word"]/\q_ 1 a fd ["word"] (spM (B_ 0) 1 iI)
abbrev L1:Prop:=∃a fd,q0T "stamp" DX a fd ["deed"]/\q_ 1 a fd ["deed"] (spM (B_ 0) 1 DO)
abbrev NU:Prop:=∃a fd,q0T "rank" IS a fd ["deed"]/\q_ 2 a fd ["deed"] (spM (B_ 0) 1 IJ)
abbrev CV:Prop:=∃a fd,q0T "in_order" uJ a fd ["deeds"]/\q_ 5 a fd ["deeds"] (spM (B_ 0) 1 tY)
abbrev Fg:Prop:=∃a fd,q0T "rank_of" yD a fd ["place"]/\q_ 1 a fd ["place"] (spM (B_ 0) 1 BH)
abbrev CW:Prop:=∃a fd,q0T "row_rank" uL a fd ["row"]/\q_ 2 a fd ["row"] (spM (B_ 0) 1 zT)
abbrev B4:Prop:=∃a fd,q0T "row_thing" rR a fd ["row"]/\q_ 1 a fd ["row"] (spM (B_ 0) 1 wA)
abbrev NV:Prop:=∃a fd,q0T "fold" IX a fd ["base","deeds"]/\q_ 9 a fd ["base","deeds"] (spM (B_ 0) 2 F2)
abbrev L3:Prop:=∃a fd,q0T "empty" DY a fd []/\q_ 1 a fd [] (spM (B_ 0) 0 xY)
variable{P w K mg base cl}
theorem pR{j:Nat}{A:td}{nm qual:Str}{st:y_}{ps:z_ Str}{sp:Sp}(x:MtX K A nm qual st)(b:BdX nm qual st ps)(h:∀{f:td}{fd:yw},q0F nm qual st f fd->q_ j f fd ps sp):∃g fd,HK K A nm g/\q_ j g fd ps sp/\Binds K fd ps []:=by let⟨f,a,i,_,_,_,_,_,_,_,_,_,l,c,k⟩:=x;let F:=E7 (st:=st) l c k;show⟨f,_,⟨a,i,k⟩,h F,F.binds (ps:=ps) b⟩
theorem L4{j:Nat}{A:td}{qual:Str}{st:y_}{ps:z_ Str}{sp:Sp}(x:MtX K A "__init__" qual st)(mk:y0L K A=true)(kc:Io K (.ref A)=true)(b:BdX "__init__" qual st ps)(h:∀{f:td}{fd:yw},q0F "__init__" qual st f fd->q_ j f fd ps sp):∃g fd,HK K A "__init__" g/\q_ j g fd ps sp/\Binds K fd ps []/\Mk K A g:=by let⟨f,a,i,_,_,_,_,_,_,_,_,_,l,c,k⟩:=x;let F:=E7 (st:=st) l c k;show⟨f,_,⟨a,i,k⟩,h F,F.binds (ps:=ps) b,mk,a,i,kc⟩
theorem uO{j:Nat}{nm:Str}{st:y_}{ps:z_ Str}{sp:Sp}{hh:v_}(X:K.In hh)(G:hh.Ns z6 mg)(x:DfX K nm st)(b:BdX nm nm st ps)(h:∀{f:td}{fd:yw},q0F nm nm st f fd->q_ j f fd ps sp):∃a fd,q0T nm st a fd ps/\q_ j a fd ps sp:=by let⟨f,a,_,_,_,_,_,_,_,_,_,l,c,k⟩:=x;let D:=Def.mk' X G a l c k b;show⟨f,_,D,h D.fn⟩
theorem Mz{f:td}{fd:yw}(hbn:∀x∈bsL,mg x=b_)(F:q0F "_law_cell_at" "_law_cell_at" yB f fd):q0i ["_law_script","_law_k"] (spM (B_ 0) 2 sP):=
 bY (C:=B_ 0) (k:=0) (N:=["_law_script","_law_k"]) (body:=BG) (λ_ _ _ h=>h) hbn F Mw λcdv A outer s H E=>
 (aJ (iR (dC M0 (aA 1) (fS Az PyProof.Rows.Boot.«len» (aD (aA 0) aQ) (hb:=uN)))
  (aP (bN (bO (aA 0) (aA 1))))
  cD)
 (aP (bN aM)))
theorem Pi{f:td}{fd:yw}(hbn:∀x∈bsL,mg x=b_)(F:q0F "_law_stream" "_law_stream" AV f fd):q0i ["_law_cell","_law_many"] (spM (B_ 0) 2 sQ):=
 bY (C:=B_ 0) (k:=0) (N:=["_law_cell","_law_many","_law_found","_law_number","_law_k"]) (body:=EY) (λ_ _ _ h=>h) hbn F sS λcdv A outer s H E=>
 (aJ (cX (i:=2) sS.nd (nU aQ))
 (aJ (cX (i:=3) sS.nd (bI dO (bI gW (aA 0) aM) aM))
 (aJ (yT (Ih (aD (bI dO (aA 1) aM) aQ) (hb:=B3)) (bC sS.nd)
  (aJ (cX (i:=3) sS.nd (bI gW (bI dO (bI dO (bI Nj (aA 3) (aA 3)) (bI Nj aM (aA 3))) (aA 4)) aM))
  (aP (uS (QH y1v y1m y1n vO (aA 2) (aD (aA 3) aQ))))))
 (aP (bN (Ez (aA 2) (oG aM) rU))))))
theorem Ss{f:td}{fd:yw}(hbn:∀x∈bsL,mg x=b_)(F:q0F "_law_hands" "_law_hands" DV f fd)(sW:BR P w K mg base cl):q_ 2 f fd ["_law_cell","_law_many"] (spM (B_ 0) 2 DJ):=
 let ⟨_,_,Fh,Fi⟩:=sW;bY (C:=B_ 0) (k:=1) (N:=["_law_cell","_law_many","_law_letters","_law_xs","_law_stem","_law_at"]) (body:=IH) (λ_ _ _ h=>h) hbn F sT λcdv A outer s H E=>
 (aJ (cX (i:=2) sT.nd bR)
 (aJ (cX (i:=3) sT.nd (s_call Fh Fi (aD (aA 0) (aD aM aQ))))
 (aJ (cX (i:=4) sT.nd (Zb PySem.F.plainAttrs_str PySem.F.slot_str_join PySem.F.type_str_join Xn bR (aD (qB (js:=[b_,a_ 2]) (N:=F7) rfl rfl (by rfl) (nW (Ez (aA 3) rU (oG aM))) (λ_ _ _ _=>(bC KH)) (λ_ _ _ _=>rV) (λ_ _ _ _=>(bO (aA 1) (bI gW (aA 0) aM)))) aQ)))
 (aJ (iR (dC mR (bI gW (aA 0) aM) aM)
  (aP (bN (qB (js:=[b_,a_ 4,a_ 3]) (N:=F8) rfl rfl (by rfl) (Ih (aD (aA 1) aQ) (hb:=B3)) (λ_ _ _ _=>(bC KJ)) (λ_ _ _ _=>rV) (λ_ _ _ _=>(Ez (aA 1) rU (oG (bI dO aM (bI gW (bI dO (aA 0) (bO (aA 2) aM)) aM))))))))
  cD)
 (aJ (cX (i:=4) sT.nd (Ez (aA 4) rU (oG (bI dO aM (bI gW (bO (aA 3) aM) aM)))))
 (aJ (cX (i:=5) sT.nd (bI gW (bO (aA 3) aM) (fS Az PyProof.Rows.Boot.«len» (aD (aA 4) aQ) (hb:=uN))))
 (aP (bN (qB (js:=[b_,a_ 4,a_ 2,a_ 5,a_ 3]) (N:=F9) rfl rfl (by rfl) (Ih (aD (aA 1) aQ) (hb:=B3)) (λ_ _ _ _=>(bC KL)) (λ_ _ _ _=>rV) (λ_ _ _ _=>(bI dO (bI dO (Ez (aA 1) rU (oG (aA 3))) (bO (aA 2) (bI gW (bI dO (bI JN (bO (aA 4) aM) aM) (bI Nj aM (aA 0))) aM))) (Ez (aA 1) (oG (bI dO (aA 3) aM)) rU))))))))))))
theorem XN{f:td}{fd:yw}(hbn:∀x∈bsL,mg x=b_)(F:q0F "_law_act" "_law_act" NS f fd):q0i ["_law_xs","_law_kinds","_law_hands_here"] (spM (B_ 0) 3 Kn):=
 bY (C:=B_ 0) (k:=0) (N:=["_law_xs","_law_kinds","_law_hands_here","_law_names","_law_thing","_law_holder","_law_spot","_law_kind"]) (body:=RF) (λ_ _ _ h=>h) hbn F uC λcdv A outer s H E=>
 (aJ (cX (i:=3) uC.nd (nV qH PyProof.Rows.Boot.«list» (aD (aA 1) aQ) (hb:=nT)))
 (aJ (cX (i:=4) uC.nd (bO (aA 3) (bI gW (bO (aA 0) aM) (fS Az PyProof.Rows.Boot.«len» (aD (aA 3) aQ) (hb:=uN)))))
 (aJ (cX (i:=5) uC.nd (bO (aA 3) (bI gW (bO (aA 0) aM) (fS Az PyProof.Rows.Boot.«len» (aD (aA 3) aQ) (hb:=uN)))))
 (aJ (iR (dC mR (bI gW (bO (aA 0) aM) aM) aM)
  (aP (cX (i:=4) uC.nd (eW (aD (bO (aA 2) aM) (aD (bI dO (bI QA aM aM) (bI gW (bO (aA 0) aM) aM)) aQ)))))
  cD)
 (aJ (iR (dC mR (bI gW (bO (aA 0) aM) aM) aM)
  (aP (cX (i:=5) uC.nd (eW (aD (bO (aA 2) aM) (aD (bI dO (bI QA aM aM) (bI gW (bO (aA 0) aM) aM)) aQ)))))
  cD)
 (aJ (cX (i:=6) uC.nd (bO (nU (aD bR (aD bR (aD bR (aD bR aQ))))) (bI gW (bO (aA 0) aM) aM)))
 (aJ (iR (dC mR (Zb y1u y0n PySem.F.type_dict_get Zc (aA 1) (aD (aA 5) (aD bR aQ))) bR)
  (aP (cX (i:=6) uC.nd (eW (aD (eW (aD (eW (aD aM (aD (bO (aA 2) (bI gW (bO (aA 0) aM) (fS Az PyProof.Rows.Boot.«len» (aD (aA 2) aQ) (hb:=uN)))) (aD (bI dO aM (bI gW (bO (aA 0) aM) aM)) (aD aM aQ))))) aQ)) (aD (bI Qz (bI Nj (bI gW (bI JN (bO (aA 0) aM) aM) aM) aM) aM) aQ)))))
  cD)
 (aJ (iR (dC M0 (bI gW (bO (aA 0) aM) aM) aM)
  (aJ (cX (i:=7) uC.nd (bO (nU (aD bR (aD bR (aD bR (aD bR (aD bR (aD bR (aD bR (aD bR aQ))))))))) (bI gW (bI JN (bO (aA 0) aM) aM) aM)))
  (aP (bN (eW (aD bR (aD (aA 7) (aD (aA 5) (aD (aA 6) aQ))))))))
  cD)
 (aJ (iR (dC M0 (bI gW (bO (aA 0) aM) aM) aM)
  (aP (bN (eW (aD bR (aD (aA 4) (aD (aA 5) (aD (aA 6) aQ)))))))
  cD)
 (aJ (iR (dC mR (bI gW (bO (aA 0) aM) aM) aM)
  (aP (bN (eW (aD bR (aD (aA 4) aQ)))))
  cD)
 (aP (bN (eW (aD (bO (nU (aD bR (aD bR (aD bR aQ)))) (bI gW (bO (aA 0) aM) aM)) (aD (aA 4) (aD (bI Qz (bO (aA 0) aM) (bI QA aM aM)) aQ))))))))))))))))
theorem Su{f:td}{fd:yw}(hbn:∀x∈bsL,mg x=b_)(F:q0F "_law_deeds" "_law_deeds" DW f fd)(sW:BR P w K mg base cl)(Sv:Sq P w K mg base cl):q_ 2 f fd ["_law_cells","_law_hands_here"] (spM (B_ 0) 2 DK):=
 let ⟨_,_,Fh,Fi⟩:=sW;let ⟨_,_,Zs,Zt⟩:=Sv;bY (C:=B_ 0) (k:=1) (N:=["_law_cells","_law_hands_here","_law_kinds","_law_rows","_law_cell","_law_xs","_law_hand","_law_name","_law_seen","_law_k","_law_number","_law_act_here"]) (body:=II) (λ_ _ _ h=>h) hbn F iN λcdv A outer s H E=>
 (aJ (cX (i:=2) iN.nd (UB (eW (aD bR (aD aM aQ))) bR))
 (aJ (cX (i:=3) iN.nd (nU aQ))
 (aJ (yT (nW (aA 0)) (bC iN.nd)
  (aJ (cX (i:=5) iN.nd (s_call Fh Fi (aD (aA 4) (aD aM aQ))))
  (aJ (cX (i:=6) iN.nd (bO (aA 1) (bI gW (bO (aA 5) aM) (fS Az PyProof.Rows.Boot.«len» (aD (aA 1) aQ) (hb:=uN)))))
  (aJ (cX (i:=7) iN.nd (eW (aD (aA 6) (aD (bI dO aM (fS Az PyProof.Rows.Boot.«len» (aD (qB (js:=[b_,a_ 6]) (N:=Fb) rfl rfl (by rfl) (nW (aA 3)) (λ_ _ _ _=>(bC KM)) (λ_ _ _ _=>(QE (dC mR (bO (bO (aA 0) aM) aM) (aA 1)))) (λ_ _ _ _=>(aA 0))) aQ) (hb:=uN))) aQ))))
  (aJ (cX (i:=8) iN.nd (nU aQ))
  (aJ (yT (Ih (aD (fS Az PyProof.Rows.Boot.«len» (aD (aA 1) aQ) (hb:=uN)) aQ) (hb:=B3)) (bC iN.nd)
   (aJ (cX (i:=10) iN.nd (bI gW (bO (aA 5) (bI dO aM (aA 9))) aM))
   (aJ (iR (dC mR (bO (aA 1) (aA 9)) (aA 6))
    (aP (cX (i:=10) iN.nd (bI Qz (bO (aA 7) aM) aM)))
    cD)
   (aP (iR (dC zaz (aA 10) aM)
    (aP (uS (QH y1v y1m y1n vO (aA 8) (aD (eW (aD (bO (aA 1) (aA 9)) (aD (aA 10) aQ))) aQ))))
    cD)))))
  (aJ (cX (i:=11) iN.nd (s_call Zs Zt (aD (aA 5) (aD (aA 2) (aD (aA 1) aQ)))))
  (aJ (iR (dC mR (bO (aA 11) aM) bR)
   (aP (BD (bO (aA 11) aM) (aA 2) (aA 7)))
   cD)
  (aP (uS (QH y1v y1m y1n vO (aA 3) (aD (eW (aD (aA 7) (aD (nV U9 PyProof.Rows.Boot.«tuple» (aD (fS QX PyProof.Rows.Boot.«sorted» (aD (aA 8) aQ) (hb:=sV)) aQ) (hb:=KY)) (aD (aA 11) aQ)))) aQ))))))))))))
 (aP (bN (aA 3))))))
theorem BS{f:td}{fd:yw}(hbn:∀x∈bsL,mg x=b_)(F:q0F "__init__" "Tree.__init__" oQ f fd)(fQ:eK (B_ 0) "failed")(cF:eK (B_ 0) "made"):q0i ["self"] (spM (B_ 0) 1 cT):=
 bY (C:=B_ 0) (k:=0) (N:=["self"]) (body:=kL) (λ_ _ _ h=>h) hbn F BM λcdv A outer s H E=>
 (aJ (qF cF Ay (aA 0))
 (aP (qF fQ (nU aQ) (aA 0))))
theorem XO{f:td}{fd:yw}(hbn:∀x∈bsL,mg x=b_)(F:q0F "_law_key" "_law_key" NT f fd):q0i ["_law_deed"] (spM (B_ 0) 1 Hx):=
 bY (C:=B_ 0) (k:=0) (N:=["_law_deed"]) (body:=RG) (λ_ _ _ h=>h) hbn F XM λcdv A outer s H E=>
 (aP (bN (eW (aD (bI dO aM (fS VR PyProof.Rows.Boot.«sum» (aD (qB (js:=[b_,b_]) (N:=KN) rfl rfl (by rfl) (nW (bO (aA 0) aM)) (λ_ _ _ _=>(pZ (bT (bC HH) (bT (bC HH) pY)))) (λ_ _ _ _=>rV) (λ_ _ _ _=>(aA 1))) aQ) (hb:=Sn))) (aD (bO (bO (aA 0) aM) aM) (aD (bO (bO (aA 0) aM) aM) aQ))))))
theorem G8{f:td}{fd:yw}(hbn:∀x∈bsL,mg x=b_)(F:q0F "hear" "Count.hear" uD f fd)(mN:eK (B_ 0) "total"):q0i ["self","deed"] (spM (B_ 0) 2 dS):=
 bY (C:=B_ 0) (k:=0) (N:=["self","deed","act"]) (body:=tV) (λ_ _ _ h=>h) hbn F yX λcdv A outer s H E=>
 (aJ (cX (i:=2) yX.nd (bO (aA 1) aM))
 (aP (iR (dC mR (bO (aA 2) aM) bR)
  (aP (Rj mN (aA 0) (bO (aA 2) aM)))
  cD)))
theorem Pj{f:td}{fd:yw}(hbn:∀x∈bsL,mg x=b_)(F:q0F "covers" "covers" AW f fd):q0i ["seen","name"] (spM (B_ 0) 2 qI):=
 bY (C:=B_ 0) (k:=0) (N:=["seen","name","hand","n"]) (body:=F0) (λ_ _ _ h=>h) hbn F BN λcdv A outer s H E=>
 (aJ (yT (nW (aA 0)) (pZ (bT (bC BN.nd) (bT (bC BN.nd) pY)))
  (aP (iR (dC mR (aA 2) (bO (aA 1) aM))
   (aP (bN (GX zaA (bO (aA 1) aM) (aA 3))))
   cD)))
 (aP (bN U4)))
theorem Fj{f:td}{fd:yw}(hbn:∀x∈bsL,mg x=b_)(F:q0F "hear" "Choice.hear" sC f fd)(Fk:HI P w K mg base cl)(aY:eK (B_ 0) "standing"):q_ 2 f fd ["self","deed"] (spM (B_ 0) 2 dB):=
 let ⟨_,_,Sw,Sx⟩:=Fk;bY (C:=B_ 0) (k:=1) (N:=["self","deed","name","seen","act","unseen"]) (body:=rY) (λ_ _ _ h=>h) hbn F jI λcdv A outer s H E=>
 (aJ (yS (aA 1) (pZ (bT (bC jI.nd) (bT (bC jI.nd) (bT (bC jI.nd) pY)))))
 (aP (iR (dC mR (bO (aA 4) aM) bR)
  (aJ (OE (i:=5) jI.nd rfl rfl (js:=[b_,a_ 3]) (N:=sU) rfl rfl (by rfl) (nW (fP aY (aA 0))) (λ_ _ _ _=>(bC AX)) (λ_ _ _ _=>(QE (GZ (Ax (s_call Sw Sx (aD (aA 1) (aD (bO (aA 0) aM) aQ))))))) (λ_ _ _ _=>(aA 0)))
  (aP (qF aY (bI dO (aA 5) (nU (aD (eW (aD (aA 2) (aD (bO (aA 4) aM) aQ))) aQ))) (aA 0))))
  cD)))
theorem L5{f:td}{fd:yw}(hbn:∀x∈bsL,mg x=b_)(F:q0F "hear" "Bag.hear" zW f fd)(aY:eK (B_ 0) "standing"):q0i ["self","deed"] (spM (B_ 0) 2 gE):=
 bY (C:=B_ 0) (k:=0) (N:=["self","deed","name","seen","act"]) (body:=zO) (λ_ _ _ h=>h) hbn F rQ λcdv A outer s H E=>
 (aJ (yS (aA 1) (pZ (bT (bC rQ.nd) (bT (bC rQ.nd) (bT (bC rQ.nd) pY)))))
 (aP (iR (dC mR (bO (aA 4) aM) bR)
  (aP (qF aY (bI dO (fP aY (aA 0)) (nU (aD (eW (aD (aA 2) (aD (bO (aA 4) aM) aQ))) aQ))) (aA 0)))
  (aP RC))))
theorem D5{f:td}{fd:yw}(hbn:∀x∈bsL,mg x=b_)(F:q0F "kind_of" "Tree.kind_of" qO f fd){Sy:td}(IZ:mg "ROOT" = c_ Sy)(cp:Xo K Sy [.str "",.int (0)])(cF:eK (B_ 0) "made"):q0i ["self","thing"] (spM (B_ 0) 2 dF):=
 bY (C:=B_ 0) (k:=0) (N:=["self","thing"]) (body:=qJ) (λ_ _ _ h=>h) hbn F D1 λcdv A outer s H E=>
 (aJ (iR (dC mR (aA 1) (Xp IZ cp))
  (aP (bN bR))
  cD)
 (aP (bN (DE (dC ER (aA 1) (fP cF (aA 0))) (bO (bO (fP cF (aA 0)) (aA 1)) aM) Es))))
theorem G9{f:td}{fd:yw}(hbn:∀x∈bsL,mg x=b_)(F:q0F "takes" "Tree.takes" uE f fd){bE:td}(bG:cl "Tree" = a_ bE)(aW:q0I bE)(hZ:t_ 1 bE "kind_of" ["self","thing"] 2 dF):q_ 2 f fd ["self","holder","spot"] (spM (B_ 0) 3 eO):=
 let ⟨_,_,oT,qU,qV⟩:=hZ;bY (C:=B_ 0) (k:=1) (N:=["self","holder","spot"]) (body:=tW) (λ_ _ _ h=>h) hbn F G5 λcdv A outer s H E=>
 (aP (bN (GX mR (jC (tb:=jE) (q1a oT nofun qU qV eE) (aA 0) (aD (aA 1) aQ)) (DE (Ax (fS mD PyProof.Rows.Boot.«isinstance» (aD (aA 2) (aD (Et (n:="str") PyProof.Rows.Boot.«str» (hb:=So)) aQ)) (hb:=kJ))) bR bR))))
theorem L6{f:td}{fd:yw}(hbn:∀x∈bsL,mg x=b_)(F:q0F "place_of" "place_of" uF f fd):q0i ["spot","name"] (spM (B_ 0) 2 qK):=
 bY (C:=B_ 0) (k:=0) (N:=["spot","name","under","side","hand","n"]) (body:=zP) (λ_ _ _ h=>h) hbn F oE λcdv A outer s H E=>
 (aJ (yS (aA 0) (pZ (bT (bC oE.nd) (bT (bC oE.nd) pY))))
 (aJ (yS (aA 1) (pZ (bT (bC oE.nd) (bT (bC oE.nd) pY))))
 (aP (bN (bI dO (aA 2) (eW (aD (eW (aD (aA 3) (aD (aA 4) (aD (aA 5) (aD aM aQ))))) aQ)))))))
theorem L7{f:td}{fd:yw}(hbn:∀x∈bsL,mg x=b_)(F:q0F "stand_of" "stand_of" uG f fd)(A0:CT P w K mg base cl):q_ 2 f fd ["spot","name"] (spM (B_ 0) 2 kN):=
 let ⟨_,_,MA,MB⟩:=A0;bY (C:=B_ 0) (k:=1) (N:=["spot","name"]) (body:=zQ) (λ_ _ _ h=>h) hbn F KO λcdv A outer s H E=>
 (aP (bN (DE (Ax (fS mD PyProof.Rows.Boot.«isinstance» (aD (aA 0) (aD (Et (n:="str") PyProof.Rows.Boot.«str» (hb:=So)) aQ)) (hb:=kJ))) (aA 0) (s_call MA MB (aD (aA 0) (aD (aA 1) aQ))))))
theorem B5{f:td}{fd:yw}(hbn:∀x∈bsL,mg x=b_)(F:q0F "hear_make" "Tree.hear_make" nD f fd)(nJ:wM P w K mg base cl){bE:td}(bG:cl "Tree" = a_ bE)(aW:q0I bE)(jU:t_ 2 bE "takes" ["self","holder","spot"] 3 eO)(cF:eK (B_ 0) "made"):q_ 3 f fd ["self","name","act"] (spM (B_ 0) 3 eZ):=
 let ⟨_,_,A1,A2⟩:=nJ;let ⟨_,_,sE,uP,uQ⟩:=jU;bY (C:=B_ 0) (k:=2) (N:=["self","name","act","word","kind","holder","spot"]) (body:=mU) (λ_ _ _ h=>h) hbn F fX λcdv A outer s H E=>
 (aJ (yS (aA 2) (pZ (bT (bC fX.nd) (bT (bC fX.nd) (bT (bC fX.nd) (bT (bC fX.nd) pY))))))
 (aJ (iR (GZ (Ax (jC (tb:=oB) (q1a sE nofun uP uQ eE) (aA 0) (aD (aA 5) (aD (aA 6) aQ)))))
  (aP (bN bR))
  cD)
 (aJ (BD (eW (aD (aA 4) (aD (aA 5) (aD (s_call A1 A2 (aD (aA 6) (aD (aA 1) aQ))) aQ)))) (fP cF (aA 0)) (aA 1))
 (aP (bN bR)))))
theorem L8{f:td}{fd:yw}(hbn:∀x∈bsL,mg x=b_)(F:q0F "put" "Tree.put" zX f fd)(cF:eK (B_ 0) "made"):q0i ["self","thing","holder","spot"] (spM (B_ 0) 4 fJ):=
 bY (C:=B_ 0) (k:=0) (N:=["self","thing","holder","spot"]) (body:=zR) (λ_ _ _ h=>h) hbn F KQ λcdv A outer s H E=>
 (aP (BD (eW (aD (bO (bO (fP cF (aA 0)) (aA 1)) aM) (aD (aA 2) (aD (aA 3) aQ)))) (fP cF (aA 0)) (aA 1)))
theorem J1{f:td}{fd:yw}(hbn:∀x∈bsL,mg x=b_)(F:q0F "ring" "Tree.ring" wF f fd)(cF:eK (B_ 0) "made"):q0i ["self","thing","holder"] (spM (B_ 0) 3 lH):=
 bY (C:=B_ 0) (k:=0) (N:=["self","thing","holder","way","upper"]) (body:=vT) (λ_ _ _ h=>h) hbn F pP λcdv A outer s H E=>
 (aJ (cX (i:=3) pP.nd (nU aQ))
 (aJ (cX (i:=4) pP.nd (aA 2))
 (aJ (Ua (dC ER (aA 4) (fP cF (aA 0)))
  (aJ (uS (QH y1v y1m y1n vO (aA 3) (aD (aA 4) aQ)))
  (aJ (iR (dC mR (aA 4) (aA 1))
   (aP (bN (aA 3)))
   cD)
  (aP (cX (i:=4) pP.nd (bO (bO (fP cF (aA 0)) (aA 4)) aM))))))
 (aP (bN (nU aQ))))))
theorem B6{f:td}{fd:yw}(hbn:∀x∈bsL,mg x=b_)(F:q0F "hear_move" "Tree.hear_move" nE f fd)(nJ:wM P w K mg base cl){bE:td}(bG:cl "Tree" = a_ bE)(aW:q0I bE)(nK:t_ 1 bE "put" ["self","thing","holder","spot"] 4 fJ)(wN:t_ 1 bE "ring" ["self","thing","holder"] 3 lH)(jU:t_ 2 bE "takes" ["self","holder","spot"] 3 eO)(fQ:eK (B_ 0) "failed"):q_ 3 f fd ["self","name","act"] (spM (B_ 0) 3 fB):=
 let ⟨_,_,A1,A2⟩:=nJ;let ⟨_,_,wO,A3,A4⟩:=nK;let ⟨_,_,J2,L9,La⟩:=wN;let ⟨_,_,sE,uP,uQ⟩:=jU;bY (C:=B_ 0) (k:=2) (N:=["self","name","act","word","thing","holder","spot"]) (body:=mW) (λ_ _ _ h=>h) hbn F fY λcdv A outer s H E=>
 (aJ (yS (aA 2) (pZ (bT (bC fY.nd) (bT (bC fY.nd) (bT (bC fY.nd) (bT (bC fY.nd) pY))))))
 (aJ (iR (GZ (Ax (jC (tb:=oB) (q1a sE nofun uP uQ eE) (aA 0) (aD (aA 5) (aD (aA 6) aQ)))))
  (aP (bN bR))
  cD)
 (aJ (iR (Ax (jC (tb:=DL) (q1a J2 nofun L9 La eE) (aA 0) (aD (aA 4) (aD (aA 5) aQ))))
  (aJ (uS (QH y1v y1m y1n vO (fP fQ (aA 0)) (aD (aA 1) aQ)))
  (aP (bN bR)))
  cD)
 (aJ (uS (jC (tb:=vU) (q1a wO nofun A3 A4 eE) (aA 0) (aD (aA 4) (aD (aA 5) (aD (s_call A1 A2 (aD (aA 6) (aD (aA 1) aQ))) aQ)))))
 (aP (bN bR))))))
theorem J3{f:td}{fd:yw}(hbn:∀x∈bsL,mg x=b_)(F:q0F "hear" "Tree.hear" wG f fd){bE:td}(bG:cl "Tree" = a_ bE)(aW:q0I bE)(nL:t_ 3 bE "hear_make" ["self","name","act"] 3 eZ)(nM:t_ 3 bE "hear_move" ["self","name","act"] 3 fB)(nK:t_ 1 bE "put" ["self","thing","holder","spot"] 4 fJ)(cF:eK (B_ 0) "made"):q_ 4 f fd ["self","deed"] (spM (B_ 0) 2 cY):=
 let ⟨_,_,B7,BU,BV⟩:=nL;let ⟨_,_,B8,BW,BX⟩:=nM;let ⟨_,_,wO,A3,A4⟩:=nK;bY (C:=B_ 0) (k:=3) (N:=["self","deed","name","seen","act"]) (body:=vV) (λ_ _ _ h=>h) hbn F pQ λcdv A outer s H E=>
 (aJ (yS (aA 1) (pZ (bT (bC pQ.nd) (bT (bC pQ.nd) (bT (bC pQ.nd) pY)))))
 (aJ (iR (dC mR (bO (aA 4) aM) bR)
  (aP (bN (jC (tb:=pK) (q1a B7 nofun BU BV eE) (aA 0) (aD (aA 2) (aD (aA 4) aQ)))))
  cD)
 (aJ (iR (dC Hq (bO (aA 4) aM) (fP cF (aA 0)))
  (aP (bN bR))
  cD)
 (aJ (iR (dC mR (bO (aA 4) aM) bR)
  (aJ (uS (jC (tb:=vU) (q1a wO nofun A3 A4 eE) (aA 0) (aD (bO (aA 4) aM) (aD Es (aD Es aQ)))))
  (aP (bN bR)))
  cD)
 (aP (bN (jC (tb:=pL) (q1a B8 nofun BW BX eE) (aA 0) (aD (aA 2) (aD (aA 4) aQ)))))))))
theorem B9{f:td}{fd:yw}(hbn:∀x∈bsL,mg x=b_)(F:q0F "__init__" "Count.__init__" nF f fd)(mN:eK (B_ 0) "total"):q0i ["self"] (spM (B_ 0) 1 jQ):=
 bY (C:=B_ 0) (k:=0) (N:=["self"]) (body:=mX) (λ_ _ _ h=>h) hbn F AY λcdv A outer s H E=>
 (aP (qF mN aM (aA 0)))
theorem A5{f:td}{fd:yw}(hbn:∀x∈bsL,mg x=b_)(F:q0F "__init__" "Choice.__init__" mL f fd)(aY:eK (B_ 0) "standing"):q0i ["self"] (spM (B_ 0) 1 fV):=
 bY (C:=B_ 0) (k:=0) (N:=["self"]) (body:=rN) (λ_ _ _ h=>h) hbn F zY λcdv A outer s H E=>
 (aP (qF aY (nU aQ) (aA 0)))
theorem D6{f:td}{fd:yw}(hbn:∀x∈bsL,mg x=b_)(F:q0F "__init__" "Bag.__init__" qP f fd)(aY:eK (B_ 0) "standing"):q0i ["self"] (spM (B_ 0) 1 jF):=
 bY (C:=B_ 0) (k:=0) (N:=["self"]) (body:=vW) (λ_ _ _ h=>h) hbn F D2 λcdv A outer s H E=>
 (aP (qF aY (nU aQ) (aA 0)))
theorem B'{f:td}{fd:yw}(hbn:∀x∈bsL,mg x=b_)(F:q0F "__init__" "Signs.__init__" nG f fd)(yE:eK (B_ 0) "kept"):q0i ["self"] (spM (B_ 0) 1 jR):=
 bY (C:=B_ 0) (k:=0) (N:=["self"]) (body:=mY) (λ_ _ _ h=>h) hbn F AZ λcdv A outer s H E=>
 (aP (qF yE Ay (aA 0)))
theorem Ba{f:td}{fd:yw}(hbn:∀x∈bsL,mg x=b_)(F:q0F "__init__" "Marks.__init__" nH f fd)(aY:eK (B_ 0) "standing"):q0i ["self"] (spM (B_ 0) 1 jS):=
 bY (C:=B_ 0) (k:=0) (N:=["self"]) (body:=mZ) (λ_ _ _ h=>h) hbn F B0 λcdv A outer s H E=>
 (aP (qF aY (nU aQ) (aA 0)))
theorem BY{f:td}{fd:yw}(hbn:∀x∈bsL,mg x=b_)(F:q0F "__init__" "Text.__init__" oR f fd){fM:td}(iA:cl "Marks" = a_ fM)(cQ:q0I fM){fN:td}(iB:cl "Signs" = a_ fN)(cR:q0I fN)(nN:q0v 1 fM "__init__" ["self"] 1 jS)(nO:q0v 1 fN "__init__" ["self"] 1 jR)(Fm:mg "Marks" = c_ fM)(Fo:mg "Signs" = c_ fN)(sX:eK (B_ 0) "marks")(sY:eK (B_ 0) "signs"):q_ 3 f fd ["self"] (spM (B_ 0) 1 kM):=
 let ⟨_,_,NW,BZ,C0,Sz⟩:=nN;let ⟨_,_,NX,C1,C2,SB⟩:=nO;bY (C:=B_ 0) (k:=2) (N:=["self"]) (body:=oM) (λ_ _ _ h=>h) hbn F BO λcdv A outer s H E=>
 (aJ (qF sY (rK iB SB C1 Fo C2) (aA 0))
 (aP (qF sX (rK iA Sz BZ Fm C0) (aA 0))))
theorem MD{f:td}{fd:yw}(hbn:∀x∈bsL,mg x=b_)(F:q0F "leaf_of" "leaf_of" yC f fd){cK:td}(dN:cl "Count" = a_ cK)(bW:q0I cK){bV:td}(cP:cl "Choice" = a_ bV)(bL:q0I bV){iF:td}(iS:cl "Bag" = a_ iF)(dY:q0I iF){sA:td}(yF:cl "Text" = a_ sA)(iX:q0I sA)(qW:q0v 1 iF "__init__" ["self"] 1 jF)(mO:q0v 1 bV "__init__" ["self"] 1 fV)(nP:q0v 1 cK "__init__" ["self"] 1 jQ)(oU:q0v 3 sA "__init__" ["self"] 1 kM)(ME:mg "Bag" = c_ iF)(C3:mg "Choice" = c_ bV)(Fp:mg "Count" = c_ cK)(J4:mg "Text" = c_ sA):q_ 5 f fd ["kind"] (spM (B_ 0) 1 pU):=
 let ⟨_,_,PF,Fq,Fs,XQ⟩:=qW;let ⟨_,_,MF,Bb,Bc,Pk⟩:=mO;let ⟨_,_,NY,C4,C5,SC⟩:=nP;let ⟨_,_,Pl,D7,D8,Va⟩:=oU;bY (C:=B_ 0) (k:=4) (N:=["kind"]) (body:=xX) (λ_ _ _ h=>h) hbn F Mx λcdv A outer s H E=>
 (aJ (iR (dC mR (aA 0) bR)
  (aP (bN (rK dN SC C4 Fp C5)))
  cD)
 (aJ (iR (dC mR (aA 0) bR)
  (aP (bN (rK cP Pk Bb C3 Bc)))
  cD)
 (aJ (iR (dC mR (aA 0) bR)
  (aP (bN (rK iS XQ Fq ME Fs)))
  cD)
 (aJ (iR (dC mR (aA 0) bR)
  (aP (bN (rK yF Va D7 J4 D8)))
  cD)
 (aP (bN Es))))))
theorem yL{f:td}{fd:yw}(hbn:∀x∈bsL,mg x=b_)(F:q0F "add_leaf" "Folding.add_leaf" kR f fd)(C6:Ff P w K mg base cl)(fC:eK (B_ 0) "leaves"):q_ 6 f fd ["self","thing","kind"] (spM (B_ 0) 3 dR):=
 let ⟨_,_,Pm,Pn⟩:=C6;bY (C:=B_ 0) (k:=5) (N:=["self","thing","kind","leaf"]) (body:=kO) (λ_ _ _ h=>h) hbn F pE λcdv A outer s H E=>
 (aJ (cX (i:=3) pE.nd (s_call Pm Pn (aD (aA 2) aQ)))
 (aP (iR (dC U7 (aA 3) Es)
  (aP (BD (aA 3) (fP fC (aA 0)) (aA 1)))
  cD)))
theorem wQ{f:td}{fd:yw}(hbn:∀x∈bsL,mg x=b_)(F:q0F "hear_tree" "Folding.hear_tree" kF f fd){cK:td}(dN:cl "Count" = a_ cK)(bW:q0I cK){bV:td}(cP:cl "Choice" = a_ bV)(bL:q0I bV){iF:td}(iS:cl "Bag" = a_ iF)(dY:q0I iF){bE:td}(bG:cl "Tree" = a_ bE)(aW:q0I bE){bS:td}(cG:cl "Folding" = a_ bS)(bJ:q0I bS)(eI:t_ 1 iF "hear" ["self","deed"] 2 gE)(cH:t_ 2 bV "hear" ["self","deed"] 2 dB)(cU:t_ 1 cK "hear" ["self","deed"] 2 dS)(kW:t_ 6 bS "add_leaf" ["self","thing","kind"] 3 dR)(dJ:t_ 4 bE "hear" ["self","deed"] 2 cY)(iY:eK (B_ 0) "tree"):q_ 7 f fd ["self","deed"] (spM (B_ 0) 2 dH):=
 let ⟨_,_,jL,kX,kY⟩:=eI;let ⟨_,_,fL,gH,gI⟩:=cH;let ⟨_,_,gJ,iJ,iK⟩:=cU;let ⟨_,_,yM,A6,A7⟩:=kW;let ⟨_,_,iL,jM,jN⟩:=dJ;bY (C:=B_ 0) (k:=6) (N:=["self","deed","fate","act"]) (body:=kE) (λ_ _ _ h=>h) hbn F jJ λcdv A outer s H E=>
 (aJ (cX (i:=2) jJ.nd (jC (tb:=iH) (aX dN bW gJ nofun iJ iK (aX cP bL fL nofun gH gI (aX iS dY jL nofun kX kY (q1a iL nofun jM jN eE)))) (fP iY (aA 0)) (aD (aA 1) aQ)))
 (aJ (cX (i:=3) jJ.nd (bO (aA 1) aM))
 (aJ (iR (SW.t (w_and (dC mR (bO (aA 3) aM) bR) (X2 (dC mR (aA 2) bR))))
  (aP (uS (jC (tb:=rO) (aX cG bJ yM nofun A6 A7 eE) (aA 0) (aD (bO (aA 1) aM) (aD (bO (aA 3) aM) aQ)))))
  cD)
 (aP (bN (aA 2))))))
theorem Lb{f:td}{fd:yw}(hbn:∀x∈bsL,mg x=b_)(F:q0F "kind_for" "kind_for" uH f fd){Ft:td}(wR:mg "KIND_FOR" = c_ Ft)(au:Xx (B_ 0) Ft [("add","count"),("choose","choice"),("put","bag"),("take","bag"),("write","text"),("cut","text"),("mark","text"),("clear","text")]):q0i ["word"] (spM (B_ 0) 1 iI):=
 bY (C:=B_ 0) (k:=0) (N:=["word"]) (body:=tX) (λ_ _ _ h=>h) hbn F KR λcdv A outer s H E=>
 (aP (bN (UH wR au (aA 0))))
theorem D9{f:td}{fd:yw}(hbn:∀x∈bsL,mg x=b_)(F:q0F "hear" "Folding.hear" qQ f fd)(A8:CU P w K mg base cl){cK:td}(dN:cl "Count" = a_ cK)(bW:q0I cK){bV:td}(cP:cl "Choice" = a_ bV)(bL:q0I bV){iF:td}(iS:cl "Bag" = a_ iF)(dY:q0I iF){bE:td}(bG:cl "Tree" = a_ bE)(aW:q0I bE){bS:td}(cG:cl "Folding" = a_ bS)(bJ:q0I bS)(eI:t_ 1 iF "hear" ["self","deed"] 2 gE)(cH:t_ 2 bV "hear" ["self","deed"] 2 dB)(cU:t_ 1 cK "hear" ["self","deed"] 2 dS)(kG:t_ 7 bS "hear_tree" ["self","deed"] 2 dH)(dJ:t_ 4 bE "hear" ["self","deed"] 2 cY)(hZ:t_ 1 bE "kind_of" ["self","thing"] 2 dF)(fC:eK (B_ 0) "leaves")(iY:eK (B_ 0) "tree"):q_ 8 f fd ["self","deed"] (spM (B_ 0) 2 dX):=
 let ⟨_,_,MG,MH⟩:=A8;let ⟨_,_,jL,kX,kY⟩:=eI;let ⟨_,_,fL,gH,gI⟩:=cH;let ⟨_,_,gJ,iJ,iK⟩:=cU;let ⟨_,_,wU,yN,yO⟩:=kG;let ⟨_,_,iL,jM,jN⟩:=dJ;let ⟨_,_,oT,qU,qV⟩:=hZ;bY (C:=B_ 0) (k:=7) (N:=["self","deed","act"]) (body:=qL) (λ_ _ _ h=>h) hbn F uY λcdv A outer s H E=>
 (aJ (cX (i:=2) uY.nd (bO (aA 1) aM))
 (aJ (iR (dC ER (bO (aA 2) aM) (eW (aD bR (aD bR (aD bR aQ)))))
  (aP (bN (jC (tb:=pM) (aX cG bJ wU nofun yN yO eE) (aA 0) (aD (aA 1) aQ))))
  cD)
 (aJ (iR (dC Hq (bO (aA 2) aM) (eW (aD bR (aD bR aQ))))
  (aJ (iR (dC U5 (jC (tb:=jE) (q1a oT nofun qU qV eE) (fP iY (aA 0)) (aD (bO (aA 2) aM) aQ)) (s_call MG MH (aD (bO (aA 2) aM) aQ)))
   (aP (bN bR))
   cD)
  (aP (uS (jC (tb:=iH) (aX dN bW gJ nofun iJ iK (aX cP bL fL nofun gH gI (aX iS dY jL nofun kX kY (q1a iL nofun jM jN eE)))) (bO (fP fC (aA 0)) (bO (aA 2) aM)) (aD (aA 1) aQ)))))
  cD)
 (aP (bN bR)))))
theorem J5{f:td}{fd:yw}(hbn:∀x∈bsL,mg x=b_)(F:q0F "fill" "Tree.fill" wH f fd)(fQ:eK (B_ 0) "failed")(cF:eK (B_ 0) "made"):q0i ["self","rows","lost"] (spM (B_ 0) 3 lI):=
 bY (C:=B_ 0) (k:=0) (N:=["self","rows","lost","thing","kind","holder","spot"]) (body:=vX) (λ_ _ _ h=>h) hbn F mM λcdv A outer s H E=>
 (aJ (qF cF Ay (aA 0))
 (aJ (yT (nW (aA 1)) (pZ (bT (bC mM.nd) (bT (bC mM.nd) (bT (bC mM.nd) (bT (bC mM.nd) pY)))))
  (aP (BD (eW (aD (aA 4) (aD (aA 5) (aD (aA 6) aQ)))) (fP cF (aA 0)) (aA 3))))
 (aP (qF fQ (nV qH PyProof.Rows.Boot.«list» (aD (aA 2) aQ) (hb:=nT)) (aA 0)))))
theorem yP{f:td}{fd:yw}(hbn:∀x∈bsL,mg x=b_)(F:q0F "__init__" "Folding.__init__" kU f fd){bE:td}(bG:cl "Tree" = a_ bE)(aW:q0I bE)(fR:q0v 1 bE "__init__" ["self"] 1 cT)(wV:t_ 1 bE "fill" ["self","rows","lost"] 3 lI)(yG:mg "Tree" = c_ bE)(fC:eK (B_ 0) "leaves")(iY:eK (B_ 0) "tree"):q_ 3 f fd ["self","base"] (spM (B_ 0) 2 fK):=
 let ⟨_,_,C7,oV,oW,J6⟩:=fR;let ⟨_,_,J7,Lc,Ld⟩:=wV;bY (C:=B_ 0) (k:=2) (N:=["self","base","rows","lost","thing","kind","holder","spot","content"]) (body:=kQ) (λ_ _ _ h=>h) hbn F cA λcdv A outer s H E=>
 (aJ (yS (aA 1) (pZ (bT (bC cA.nd) (bT (bC cA.nd) pY))))
 (aJ (qF iY (rK bG J6 oV yG oW) (aA 0))
 (aJ (uS (jC (tb:=DM) (q1a J7 nofun Lc Ld eE) (fP iY (aA 0)) (aD (qB (js:=[b_]) (N:=mQ) rfl rfl (by rfl) (nW (aA 2)) (λ_ _ _ _=>(bC uI)) (λ_ _ _ _=>rV) (λ_ _ _ _=>(Ez (aA 0) rU (oG aM)))) (aD (aA 3) aQ))))
 (aJ (qF fC Ay (aA 0))
 (aP (yT (nW (aA 2)) (pZ (bT (bC cA.nd) (bT (bC cA.nd) (bT (bC cA.nd) (bT (bC cA.nd) (bT (bC cA.nd) pY))))))
  (aJ RC
  (aP RC))))))))
theorem SD{f:td}{fd:yw}(hbn:∀x∈bsL,mg x=b_)(F:q0F "stamp" "stamp" DX f fd):q0i ["deed"] (spM (B_ 0) 1 DO):=
 bY (C:=B_ 0) (k:=0) (N:=["deed"]) (body:=DN) (λ_ _ _ h=>h) hbn F Sl λcdv A outer s H E=>
 (aP (bN (bI dO aM (fS VR PyProof.Rows.Boot.«sum» (aD (qB (js:=[b_]) (N:=Fc) rfl rfl (by rfl) (nW (bO (aA 0) aM)) (λ_ _ _ _=>(bC KS)) (λ_ _ _ _=>rV) (λ_ _ _ _=>(bO (aA 0) aM))) aQ) (hb:=Sn)))))
theorem Vb{f:td}{fd:yw}(hbn:∀x∈bsL,mg x=b_)(F:q0F "rank" "rank" IS f fd)(J8:L1 P w K mg base cl):q_ 2 f fd ["deed"] (spM (B_ 0) 1 IJ):=
 let ⟨_,_,Vc,Vd⟩:=J8;bY (C:=B_ 0) (k:=1) (N:=["deed","hand","n"]) (body:=Mn) (λ_ _ _ h=>h) hbn F IT λcdv A outer s H E=>
 (aJ (yS (bO (aA 0) aM) (pZ (bT (bC IT.nd) (bT (bC IT.nd) pY))))
 (aP (bN (eW (aD (s_call Vc Vd (aD (aA 0) aQ)) (aD (aA 1) (aD (aA 2) aQ)))))))
theorem Le{f:td}{fd:yw}(hbn:∀x∈bsL,mg x=b_)(F:q0F "in_order" "in_order" uJ f fd)(MI:NU P w K mg base cl):q_ 5 f fd ["deeds"] (spM (B_ 0) 1 tY):=
 let ⟨_,_,XR,XS⟩:=MI;bY (C:=B_ 0) (k:=4) (N:=["deeds","by_name","deed"]) (body:=zS) (λ_ _ _ h=>h) hbn F wI λcdv A outer s H E=>
 (aJ (cX (i:=1) wI.nd Ay)
 (aJ (yT (nW (aA 0)) (bC wI.nd)
  (aP (BD (aA 2) (aA 1) (bO (aA 2) aM))))
 (aP (bN (IA XR XS (QT y1u PySem.F.slot_dict_values PySem.F.type_dict_values m_values (aA 1)) (hb:=sV))))))
theorem C8{f:td}{fd:yw}(hbn:∀x∈bsL,mg x=b_)(F:q0F "content" "Count.content" oS f fd)(mN:eK (B_ 0) "total"):q0i ["self"] (spM (B_ 0) 1 iM):=
 bY (C:=B_ 0) (k:=0) (N:=["self"]) (body:=oO) (λ_ _ _ h=>h) hbn F BP λcdv A outer s H E=>
 (aP (bN (fP mN (aA 0))))
theorem Bd{f:td}{fd:yw}(hbn:∀x∈bsL,mg x=b_)(F:q0F "content" "Choice.content" nI f fd)(aY:eK (B_ 0) "standing"):q0i ["self"] (spM (B_ 0) 1 gY):=
 bY (C:=B_ 0) (k:=0) (N:=["self"]) (body:=nB) (λ_ _ _ h=>h) hbn F B1 λcdv A outer s H E=>
 (aP (bN (nV qH PyProof.Rows.Boot.«list» (aD (fP aY (aA 0)) aQ) (hb:=nT))))
theorem Fu{f:td}{fd:yw}(hbn:∀x∈bsL,mg x=b_)(F:q0F "content" "Bag.content" sD f fd)(aY:eK (B_ 0) "standing"):q0i ["self"] (spM (B_ 0) 1 kH):=
 bY (C:=B_ 0) (k:=0) (N:=["self"]) (body:=rZ) (λ_ _ _ h=>h) hbn F Fd λcdv A outer s H E=>
 (aP (bN (nV qH PyProof.Rows.Boot.«list» (aD (fP aY (aA 0)) aQ) (hb:=nT))))
theorem Ga{f:td}{fd:yw}(hbn:∀x∈bsL,mg x=b_)(F:q0F "rows" "Marks.rows" uK f fd)(aY:eK (B_ 0) "standing"):q0i ["self"] (spM (B_ 0) 1 eQ):=
 bY (C:=B_ 0) (k:=0) (N:=["self"]) (body:=tZ) (λ_ _ _ h=>h) hbn F G6 λcdv A outer s H E=>
 (aP (bN (qB (js:=[b_]) (N:=uZ) rfl rfl (by rfl) (nW (fP aY (aA 0))) (λ_ _ _ _=>(bC BQ)) (λ_ _ _ _=>rV) (λ_ _ _ _=>(bI dO (Ez (aA 0) rU (oG aM)) (eW (aD (nV qH PyProof.Rows.Boot.«list» (aD (bO (aA 0) aM) aQ) (hb:=nT)) aQ)))))))
theorem MJ{f:td}{fd:yw}(hbn:∀x∈bsL,mg x=b_)(F:q0F "rank_of" "rank_of" yD f fd):q0i ["place"] (spM (B_ 0) 1 BH):=
 bY (C:=B_ 0) (k:=0) (N:=["place"]) (body:=Hy) (λ_ _ _ h=>h) hbn F My λcdv A outer s H E=>
 (aP (bN (bI dO (aA 0) (eW (aD (eW (aD aM aQ)) aQ)))))
theorem Lf{f:td}{fd:yw}(hbn:∀x∈bsL,mg x=b_)(F:q0F "row_rank" "row_rank" uL f fd)(C9:Fg P w K mg base cl):q_ 2 f fd ["row"] (spM (B_ 0) 1 zT):=
 let ⟨_,_,Po,Pp⟩:=C9;bY (C:=B_ 0) (k:=1) (N:=["row"]) (body:=F1) (λ_ _ _ h=>h) hbn F KU λcdv A outer s H E=>
 (aP (bN (s_call Po Pp (aD (bO (aA 0) aM) aQ))))
theorem Gb{f:td}{fd:yw}(hbn:∀x∈bsL,mg x=b_)(F:q0F "rows" "Signs.rows" uM f fd)(A9:CW P w K mg base cl)(yE:eK (B_ 0) "kept"):q_ 5 f fd ["self"] (spM (B_ 0) 1 eR):=
 let ⟨_,_,MK,ML⟩:=A9;bY (C:=B_ 0) (k:=4) (N:=["self"]) (body:=uA) (λ_ _ _ h=>h) hbn F G7 λcdv A outer s H E=>
 (aP (bN (RA MK ML (QT y1u PySem.F.slot_dict_items PySem.F.type_dict_items Ki (fP yE (aA 0))) (hb:=sV))))
theorem J9{f:td}{fd:yw}(hbn:∀x∈bsL,mg x=b_)(F:q0F "row_thing" "row_thing" rR f fd):q0i ["row"] (spM (B_ 0) 1 wA):=
 bY (C:=B_ 0) (k:=0) (N:=["row"]) (body:=vZ) (λ_ _ _ h=>h) hbn F IU λcdv A outer s H E=>
 (aP (bN (bO (aA 0) aM)))
theorem J'{f:td}{fd:yw}(hbn:∀x∈bsL,mg x=b_)(F:q0F "rows" "Tree.rows" wJ f fd)(wW:B4 P w K mg base cl)(cF:eK (B_ 0) "made"):q_ 4 f fd ["self"] (spM (B_ 0) 1 eX):=
 let ⟨_,_,Lg,Lh⟩:=wW;bY (C:=B_ 0) (k:=3) (N:=["self"]) (body:=wB) (λ_ _ _ h=>h) hbn F IV λcdv A outer s H E=>
 (aP (bN (IA Lg Lh (Xu true (JT lB pJ (mUn (cW "made") (mV 0))) (qB (js:=[b_,b_]) (N:=wK) rfl rfl (by rfl) (Xs true (λ_=>⟨_,_,_,rfl⟩) (QT y1u PySem.F.slot_dict_items PySem.F.type_dict_items Ki (fP cF (aA 0)))) (λ_ _ _ _=>(pZ (bT (bC vA) (bT (bC vA) pY)))) (λ_ _ _ _=>rV) (λ_ _ _ _=>(bI dO (eW (aD (aA 0) aQ)) (aA 1))))) (hb:=sV))))
theorem Da{f:td}{fd:yw}(hbn:∀x∈bsL,mg x=b_)(F:q0F "content" "Text.content" qR f fd){fM:td}(iA:cl "Marks" = a_ fM)(cQ:q0I fM){fN:td}(iB:cl "Signs" = a_ fN)(cR:q0I fN){bE:td}(bG:cl "Tree" = a_ bE)(aW:q0I bE)(eS:t_ 1 fM "rows" ["self"] 1 eQ)(eT:t_ 5 fN "rows" ["self"] 1 eR)(fZ:t_ 4 bE "rows" ["self"] 1 eX)(sX:eK (B_ 0) "marks")(sY:eK (B_ 0) "signs"):q_ 6 f fd ["self"] (spM (B_ 0) 1 jG):=
 let ⟨_,_,iO,jV,jW⟩:=eS;let ⟨_,_,iP,jX,jY⟩:=eT;let ⟨_,_,jZ,lJ,lK⟩:=fZ;bY (C:=B_ 0) (k:=5) (N:=["self"]) (body:=qM) (λ_ _ _ h=>h) hbn F D3 λcdv A outer s H E=>
 (aP (bN (eW (aD (rJ (tb:=eC) (aX iA cQ iO nofun jV jW (aX iB cR iP nofun jX jY (q1a jZ nofun lJ lK eE))) (fP sY (aA 0))) (aD (rJ (tb:=eC) (aX iA cQ iO nofun jV jW (aX iB cR iP nofun jX jY (q1a jZ nofun lJ lK eE))) (fP sX (aA 0))) aQ)))))
theorem vE{f:td}{fd:yw}(hbn:∀x∈bsL,mg x=b_)(F:q0F "content_of" "Folding.content_of" jK f fd){cK:td}(dN:cl "Count" = a_ cK)(bW:q0I cK){bV:td}(cP:cl "Choice" = a_ bV)(bL:q0I bV){iF:td}(iS:cl "Bag" = a_ iF)(dY:q0I iF){sA:td}(yF:cl "Text" = a_ sA)(iX:q0I sA)(sF:t_ 1 iF "content" ["self"] 1 kH)(nQ:t_ 1 bV "content" ["self"] 1 gY)(oX:t_ 1 cK "content" ["self"] 1 iM)(qX:t_ 6 sA "content" ["self"] 1 jG)(fC:eK (B_ 0) "leaves"):q_ 7 f fd ["self","thing"] (spM (B_ 0) 2 cZ):=
 let ⟨_,_,Fv,Gc,Gd⟩:=sF;let ⟨_,_,Be,Ca,Cb⟩:=nQ;let ⟨_,_,Cc,Dc,De⟩:=oX;let ⟨_,_,Df,Fw,Fx⟩:=qX;bY (C:=B_ 0) (k:=6) (N:=["self","thing"]) (body:=jH) (λ_ _ _ h=>h) hbn F vD λcdv A outer s H E=>
 (aP (bN (DE (dC ER (aA 1) (fP fC (aA 0))) (rJ (tb:=eG) (aX dN bW Cc nofun Dc De (aX cP bL Be nofun Ca Cb (aX iS dY Fv nofun Gc Gd (aX yF iX Df nofun Fw Fx eE)))) (bO (fP fC (aA 0)) (aA 1))) Es)))
theorem Ja{f:td}{fd:yw}(hbn:∀x∈bsL,mg x=b_)(F:q0F "lost" "Tree.lost" wL f fd)(fQ:eK (B_ 0) "failed"):q0i ["self"] (spM (B_ 0) 1 fW):=
 bY (C:=B_ 0) (k:=0) (N:=["self"]) (body:=wC) (λ_ _ _ h=>h) hbn F IW λcdv A outer s H E=>
 (aP (bN (nV qH PyProof.Rows.Boot.«list» (aD (fP fQ (aA 0)) aQ) (hb:=nT))))
theorem Dg{f:td}{fd:yw}(hbn:∀x∈bsL,mg x=b_)(F:q0F "base" "Folding.base" qS f fd){fM:td}(iA:cl "Marks" = a_ fM)(cQ:q0I fM){fN:td}(iB:cl "Signs" = a_ fN)(cR:q0I fN){bE:td}(bG:cl "Tree" = a_ bE)(aW:q0I bE){bS:td}(cG:cl "Folding" = a_ bS)(bJ:q0I bS)(jO:t_ 7 bS "content_of" ["self","thing"] 2 cZ)(eS:t_ 1 fM "rows" ["self"] 1 eQ)(eT:t_ 5 fN "rows" ["self"] 1 eR)(lQ:t_ 1 bE "lost" ["self"] 1 fW)(fZ:t_ 4 bE "rows" ["self"] 1 eX)(iY:eK (B_ 0) "tree"):q_ 8 f fd ["self"] (spM (B_ 0) 1 gZ):=
 let ⟨_,_,vF,wX,wY⟩:=jO;let ⟨_,_,iO,jV,jW⟩:=eS;let ⟨_,_,iP,jX,jY⟩:=eT;let ⟨_,_,uR,wZ,xH⟩:=lQ;let ⟨_,_,jZ,lJ,lK⟩:=fZ;bY (C:=B_ 0) (k:=7) (N:=["self"]) (body:=qN) (λ_ _ _ h=>h) hbn F D4 λcdv A outer s H E=>
 (aP (bN (eW (aD (qB (js:=[b_,a_ 0]) (N:=rS) rfl rfl (by rfl) (nW (rJ (tb:=eC) (aX iA cQ iO nofun jV jW (aX iB cR iP nofun jX jY (q1a jZ nofun lJ lK eE))) (fP iY (aA 0)))) (λ_ _ _ _=>(bC zZ)) (λ_ _ _ _=>rV) (λ_ _ _ _=>(bI dO (aA 0) (eW (aD (jC (tb:=kI) (aX cG bJ vF nofun wX wY eE) (aA 1) (aD (bO (aA 0) aM) aQ)) aQ))))) (aD (rJ (tb:=pN) (q1a uR nofun wZ xH eE) (fP iY (aA 0))) aQ)))))
theorem Ve{f:td}{fd:yw}(hbn:∀x∈bsL,mg x=b_)(F:q0F "fold" "fold" IX f fd)(Aa:CV P w K mg base cl){cK:td}(dN:cl "Count" = a_ cK)(bW:q0I cK){bV:td}(cP:cl "Choice" = a_ bV)(bL:q0I bV){iF:td}(iS:cl "Bag" = a_ iF)(dY:q0I iF){bE:td}(bG:cl "Tree" = a_ bE)(aW:q0I bE){bS:td}(cG:cl "Folding" = a_ bS)(bJ:q0I bS)(eI:t_ 1 iF "hear" ["self","deed"] 2 gE)(cH:t_ 2 bV "hear" ["self","deed"] 2 dB)(cU:t_ 1 cK "hear" ["self","deed"] 2 dS)(kZ:q0v 3 bS "__init__" ["self","base"] 2 fK)(qY:t_ 8 bS "base" ["self"] 1 gZ)(iC:t_ 8 bS "hear" ["self","deed"] 2 dX)(dJ:t_ 4 bE "hear" ["self","deed"] 2 cY)(Ab:mg "Folding" = c_ bS):q_ 9 f fd ["base","deeds"] (spM (B_ 0) 2 F2):=
 let ⟨_,_,MM,MN⟩:=Aa;let ⟨_,_,jL,kX,kY⟩:=eI;let ⟨_,_,fL,gH,gI⟩:=cH;let ⟨_,_,gJ,iJ,iK⟩:=cU;let ⟨_,_,Lr,Ac,Ad,MP⟩:=kZ;let ⟨_,_,Dh,Fy,Fz⟩:=qY;let ⟨_,_,oY,qZ,rA⟩:=iC;let ⟨_,_,iL,jM,jN⟩:=dJ;bY (C:=B_ 0) (k:=8) (N:=["base","deeds","folding","deed"]) (body:=Mp) (λ_ _ _ h=>h) hbn F IY λcdv A outer s H E=>
 (aJ (cX (i:=2) IY.nd (Xl cG MP Ac Ab Ad (aD (aA 0) aQ)))
 (aJ (yT (nW (s_call MM MN (aD (aA 1) aQ))) (bC IY.nd)
  (aP (uS (jC (tb:=gG) (aX dN bW gJ nofun iJ iK (aX cP bL fL nofun gH gI (aX iS dY jL nofun kX kY (q1a iL nofun jM jN (aX cG bJ oY nofun qZ rA eE))))) (aA 2) (aD (aA 3) aQ)))))
 (aP (bN (rJ (tb:=DP) (aX cG bJ Dh nofun Fy Fz eE) (aA 2))))))
theorem SF{f:td}{fd:yw}(hbn:∀x∈bsL,mg x=b_)(F:q0F "empty" "empty" DY f fd):q0i [] (spM (B_ 0) 0 xY):=
 bY (C:=B_ 0) (k:=0) (N:=[]) (body:=IK) (λ_ _ _ h=>h) hbn F Sm λcdv A outer s H E=>
 (aP (bN (eW (aD (nU aQ) (aD (nU aQ) aQ)))))
theorem XT{f:td}{fd:yw}(hbn:∀x∈bsL,mg x=b_)(F:q0F "law" "law" B2 f fd)(Cd:Fe P w K mg base cl)(Jb:KZ P w K mg base cl)(Jc:L0 P w K mg base cl)(SH:Sr P w K mg base cl)(MQ:NV P w K mg base cl)(Jd:L3 P w K mg base cl){cK:td}(dN:cl "Count" = a_ cK)(bW:q0I cK){bV:td}(cP:cl "Choice" = a_ bV)(bL:q0I bV){iF:td}(iS:cl "Bag" = a_ iF)(dY:q0I iF){fM:td}(iA:cl "Marks" = a_ fM)(cQ:q0I fM){fN:td}(iB:cl "Signs" = a_ fN)(cR:q0I fN){bE:td}(bG:cl "Tree" = a_ bE)(aW:q0I bE){bS:td}(cG:cl "Folding" = a_ bS)(bJ:q0I bS)(eI:t_ 1 iF "hear" ["self","deed"] 2 gE)(cH:t_ 2 bV "hear" ["self","deed"] 2 dB)(cU:t_ 1 cK "hear" ["self","deed"] 2 dS)(iC:t_ 8 bS "hear" ["self","deed"] 2 dX)(eS:t_ 1 fM "rows" ["self"] 1 eQ)(eT:t_ 5 fN "rows" ["self"] 1 eR)(fR:q0v 1 bE "__init__" ["self"] 1 cT)(dJ:t_ 4 bE "hear" ["self","deed"] 2 cY)(lQ:t_ 1 bE "lost" ["self"] 1 fW)(fZ:t_ 4 bE "rows" ["self"] 1 eX)(yG:mg "Tree" = c_ bE):q_ 10 f fd ["_law_script"] (spM (B_ 0) 1 RJ):=
 let ⟨_,_,Pq,Pr⟩:=Cd;let ⟨_,_,Vf,Vg⟩:=Jb;let ⟨_,_,Vh,Vi⟩:=Jc;let ⟨_,_,Zu,Zv⟩:=SH;let ⟨_,_,XU,XW⟩:=MQ;let ⟨_,_,Vj,Vk⟩:=Jd;let ⟨_,_,jL,kX,kY⟩:=eI;let ⟨_,_,fL,gH,gI⟩:=cH;let ⟨_,_,gJ,iJ,iK⟩:=cU;let ⟨_,_,oY,qZ,rA⟩:=iC;let ⟨_,_,iO,jV,jW⟩:=eS;let ⟨_,_,iP,jX,jY⟩:=eT;let ⟨_,_,C7,oV,oW,J6⟩:=fR;let ⟨_,_,iL,jM,jN⟩:=dJ;let ⟨_,_,uR,wZ,xH⟩:=lQ;let ⟨_,_,jZ,lJ,lK⟩:=fZ;bY (C:=B_ 0) (k:=9) (N:=["_law_script","_law_first","_law_hands_here","_law_deeds_here","_law_handed","_law_tree","_law_deed","_law_rows","_law_lost","_law_row"]) (body:=RI) (λ_ _ _ h=>h) hbn F qT λcdv A outer s H E=>
 (aJ (cX (i:=1) qT.nd (s_call Pq Pr (aD (aA 0) (aD aM aQ))))
 (aJ (cX (i:=2) qT.nd (s_call Vf Vg (aD (aA 1) (aD (bI dO aM (bI gW (bI JN (aA 1) aM) aM)) aQ))))
 (aJ (cX (i:=3) qT.nd (s_call Vh Vi (aD (Ez (aA 0) (oG aM) (oG aM)) (aD (aA 2) aQ))))
 (aJ (cX (i:=4) qT.nd (nV qH PyProof.Rows.Boot.«list» (aD (aA 3) aQ) (hb:=nT)))
 (aJ (iR (dC mR (bI gW (bI JN (aA 1) aM) aM) aM)
  (aP (cX (i:=4) qT.nd (bI dO (OR (aA 3) nT (.tail _ (.tail _ (.tail _ (.tail _ (.tail _ (.tail _ (.tail _ (.tail _ (.head _)))))))))) (Ez (aA 3) rU (oG aM)))))
  cD)
 (aJ (cX (i:=5) qT.nd (rK bG J6 oV yG oW))
 (aJ (yT (nW (IA Zu Zv (aA 3) (hb:=sV))) (bC qT.nd)
  (aP (iR (dC ER (bO (bO (aA 6) aM) aM) (nU (aD bR (aD bR (aD bR aQ)))))
   (aP (uS (jC (tb:=gG) (aX dN bW gJ nofun iJ iK (aX cP bL fL nofun gH gI (aX iS dY jL nofun kX kY (q1a iL nofun jM jN (aX cG bJ oY nofun qZ rA eE))))) (aA 5) (aD (aA 6) aQ))))
   cD)))
 (aJ (yS (s_call XU XW (aD (UG Vj Vk) (aD (aA 4) aQ))) (pZ (bT (bC qT.nd) (bT (bC qT.nd) pY))))
 (aJ (iR (SW.t (w_or (GZ (Ax (fS mD PyProof.Rows.Boot.«isinstance» (aD (aA 7) (aD (Et (n:="list") PyProof.Rows.Boot.«list» (hb:=nT)) aQ)) (hb:=kJ)))) (w_or (GZ (Ax (fS mD PyProof.Rows.Boot.«isinstance» (aD (aA 8) (aD (Et (n:="list") PyProof.Rows.Boot.«list» (hb:=nT)) aQ)) (hb:=kJ)))) (VM (dC U5 (aA 8) (rJ (tb:=pN) (q1a uR nofun wZ xH eE) (aA 5)))))))
  (aP (bN U4))
  cD)
 (aJ (yT (nW (aA 7)) (bC qT.nd)
  (aJ (iR (SW.t (w_or (GZ (Ax (fS mD PyProof.Rows.Boot.«isinstance» (aD (aA 9) (aD (Et (n:="tuple") PyProof.Rows.Boot.«tuple» (hb:=KY)) aQ)) (hb:=kJ)))) (VM (dC U5 (fS Az PyProof.Rows.Boot.«len» (aD (aA 9) aQ) (hb:=uN)) aM))))
   (aP (bN U4))
   cD)
  (aP (iR (dC U5 (GX zaC (bO (aA 9) aM) Es) (zaD (GX mR (bO (aA 9) aM) bR) (YR (GX mR (bO (aA 9) aM) bR))))
   (aP (bN U4))
   cD))))
 (aP (bN (GX mR (qB (js:=[b_]) (N:=KW) rfl rfl (by rfl) (nW (aA 7)) (λ_ _ _ _=>(bC Ph)) (λ_ _ _ _=>rV) (λ_ _ _ _=>(Ez (aA 0) rU (oG aM)))) (rJ (tb:=eC) (aX iA cQ iO nofun jV jW (aX iB cR iP nofun jX jY (q1a jZ nofun lJ lK eE))) (aA 5)))))))))))))))
end
def spL(K:yb):Sp:=λvs H Q _=>∃(a:td)(ns:z_ Int),vs=[.ref a]/\Qe H/\q1y a (q1x 0)/\ns.length<=63/\∀H',Q (.bl true) H'
@[elab_as_elim]theorem oZ{P:z_ r_->Prop}(us:z_ r_)(hl:us.length=1)(h:∀a0,P [a0]):P us:=by
 cases us with
 |nil=>cases hl
 |cons a0 us=>
  cases us with
  |nil=>exact h a0
  |cons b us=>simp only[zt]at hl;omega
@[elab_as_elim]theorem xI{P:z_ r_->Prop}(us:z_ r_)(hl:us.length=2)(h:∀a0 a1,P [a0,a1]):P us:=by
 cases us with
 |nil=>cases hl
 |cons a0 us=>
  cases us with
  |nil=>cases hl
  |cons a1 us=>
   cases us with
   |nil=>exact h a0 a1
   |cons b us=>simp only[zt]at hl;omega
@[elab_as_elim]theorem MR{P:z_ r_->Prop}(us:z_ r_)(hl:us.length=3)(h:∀a0 a1 a2,P [a0,a1,a2]):P us:=by
 cases us with
 |nil=>cases hl
 |cons a0 us=>
  cases us with
  |nil=>cases hl
  |cons a1 us=>
   cases us with
   |nil=>cases hl
   |cons a2 us=>
    cases us with
    |nil=>exact h a0 a1 a2
    |cons b us=>simp only[zt]at hl;omega
@[elab_as_elim]theorem zaW{P:z_ r_->Prop}(us:z_ r_)(hl:us.length=4)(h:∀a0 a1 a2 a3,P [a0,a1,a2,a3]):P us:=by
 cases us with
 |nil=>cases hl
 |cons a0 us=>
  cases us with
  |nil=>cases hl
  |cons a1 us=>
   cases us with
   |nil=>cases hl
   |cons a2 us=>
    cases us with
    |nil=>cases hl
    |cons a3 us=>
     cases us with
     |nil=>exact h a0 a1 a2 a3
     |cons b us=>simp only[zt]at hl;omega
theorem all_mk{l:PySem.W.OpenLaw}{w:w4}{K:yb}{h:v_}{mg:n_ 0}{fa aG aF aR aH aI aN aK aC SJ rB Je:td}(X:K.In h)(G:h.Ns z6 mg)(hfa:mg "law" = c_ fa)(hbn:∀x∈bsL,mg x=b_)
  (Vl:y05 K z6 "Count" = a_ (c_ aG))
  (SK:y0q K aG y2D=true)
  (SL:y0u K aG=true)
  (SM:y0C K aG=true)
  (SN:q1k (.ref aG) "__setattr__" = a_ (a_ (.builtin "object.__setattr__")))
  (SQ:y0L K aG=true)
  (SR:Io K (.ref aG)=true)
  (Di:q1k (.ref aG) "failed" = a_ b_)
  (Ge:q1k (.ref aG) "kept" = a_ b_)
  (Dj:q1k (.ref aG) "leaves" = a_ b_)
  (Gf:q1k (.ref aG) "made" = a_ b_)
  (FA:q1k (.ref aG) "marks" = a_ b_)
  (FB:q1k (.ref aG) "signs" = a_ b_)
  (Bf:q1k (.ref aG) "standing" = a_ b_)
  (FC:q1k (.ref aG) "total" = a_ b_)
  (Gg:q1k (.ref aG) "tree" = a_ b_)
  (SS:y05 K z6 "Choice" = a_ (c_ aF))
  (Pt:y0q K aF y2D=true)
  (Pu:y0u K aF=true)
  (Pv:y0C K aF=true)
  (Pw:q1k (.ref aF) "__setattr__" = a_ (a_ (.builtin "object.__setattr__")))
  (Px:y0L K aF=true)
  (Py:Io K (.ref aF)=true)
  (Ce:q1k (.ref aF) "failed" = a_ b_)
  (FD:q1k (.ref aF) "kept" = a_ b_)
  (Cf:q1k (.ref aF) "leaves" = a_ b_)
  (FF:q1k (.ref aF) "made" = a_ b_)
  (Dk:q1k (.ref aF) "marks" = a_ b_)
  (Dl:q1k (.ref aF) "signs" = a_ b_)
  (Ae:q1k (.ref aF) "standing" = a_ b_)
  (Dm:q1k (.ref aF) "total" = a_ b_)
  (FG:q1k (.ref aF) "tree" = a_ b_)
  (Zw:y05 K z6 "Bag" = a_ (c_ aR))
  (XX:y0q K aR y2D=true)
  (XY:y0u K aR=true)
  (XZ:y0C K aR=true)
  (Y0:q1k (.ref aR) "__setattr__" = a_ (a_ (.builtin "object.__setattr__")))
  (Y1:y0L K aR=true)
  (Y2:Io K (.ref aR)=true)
  (Gh:q1k (.ref aR) "failed" = a_ b_)
  (Li:q1k (.ref aR) "kept" = a_ b_)
  (Gi:q1k (.ref aR) "leaves" = a_ b_)
  (Lj:q1k (.ref aR) "made" = a_ b_)
  (Jf:q1k (.ref aR) "marks" = a_ b_)
  (Jg:q1k (.ref aR) "signs" = a_ b_)
  (Dn:q1k (.ref aR) "standing" = a_ b_)
  (Jh:q1k (.ref aR) "total" = a_ b_)
  (Lk:q1k (.ref aR) "tree" = a_ b_)
  (Vm:y05 K z6 "Marks" = a_ (c_ aH))
  (SU:y0q K aH y2D=true)
  (SV:y0u K aH=true)
  (SX:y0C K aH=true)
  (SY:q1k (.ref aH) "__setattr__" = a_ (a_ (.builtin "object.__setattr__")))
  (SZ:y0L K aH=true)
  (T1:Io K (.ref aH)=true)
  (Do:q1k (.ref aH) "failed" = a_ b_)
  (Gj:q1k (.ref aH) "kept" = a_ b_)
  (Dp:q1k (.ref aH) "leaves" = a_ b_)
  (Gk:q1k (.ref aH) "made" = a_ b_)
  (FH:q1k (.ref aH) "marks" = a_ b_)
  (FI:q1k (.ref aH) "signs" = a_ b_)
  (Bg:q1k (.ref aH) "standing" = a_ b_)
  (FJ:q1k (.ref aH) "total" = a_ b_)
  (Gm:q1k (.ref aH) "tree" = a_ b_)
  (Vn:y05 K z6 "Signs" = a_ (c_ aI))
  (T2:y0q K aI y2D=true)
  (T3:y0u K aI=true)
  (T4:y0C K aI=true)
  (T5:q1k (.ref aI) "__setattr__" = a_ (a_ (.builtin "object.__setattr__")))
  (T6:y0L K aI=true)
  (T7:Io K (.ref aI)=true)
  (Dq:q1k (.ref aI) "failed" = a_ b_)
  (Gn:q1k (.ref aI) "kept" = a_ b_)
  (Dr:q1k (.ref aI) "leaves" = a_ b_)
  (Gp:q1k (.ref aI) "made" = a_ b_)
  (FK:q1k (.ref aI) "marks" = a_ b_)
  (FL:q1k (.ref aI) "signs" = a_ b_)
  (Bh:q1k (.ref aI) "standing" = a_ b_)
  (FM:q1k (.ref aI) "total" = a_ b_)
  (Gq:q1k (.ref aI) "tree" = a_ b_)
  (Y3:y05 K z6 "Text" = a_ (c_ aN))
  (Vo:y0q K aN y2D=true)
  (Vp:y0u K aN=true)
  (Vq:y0C K aN=true)
  (Vr:q1k (.ref aN) "__setattr__" = a_ (a_ (.builtin "object.__setattr__")))
  (Vs:y0L K aN=true)
  (Vt:Io K (.ref aN)=true)
  (FN:q1k (.ref aN) "failed" = a_ b_)
  (Ji:q1k (.ref aN) "kept" = a_ b_)
  (FO:q1k (.ref aN) "leaves" = a_ b_)
  (Jj:q1k (.ref aN) "made" = a_ b_)
  (Gr:q1k (.ref aN) "marks" = a_ b_)
  (Gs:q1k (.ref aN) "signs" = a_ b_)
  (Cg:q1k (.ref aN) "standing" = a_ b_)
  (Gu:q1k (.ref aN) "total" = a_ b_)
  (Jk:q1k (.ref aN) "tree" = a_ b_)
  (Y4:y05 K z6 "Tree" = a_ (c_ aK))
  (Vu:y0q K aK y2D=true)
  (Vv:y0u K aK=true)
  (Vw:y0C K aK=true)
  (Vx:q1k (.ref aK) "__setattr__" = a_ (a_ (.builtin "object.__setattr__")))
  (Vy:y0L K aK=true)
  (Vz:Io K (.ref aK)=true)
  (FP:q1k (.ref aK) "failed" = a_ b_)
  (Jl:q1k (.ref aK) "kept" = a_ b_)
  (FQ:q1k (.ref aK) "leaves" = a_ b_)
  (Jm:q1k (.ref aK) "made" = a_ b_)
  (Gv:q1k (.ref aK) "marks" = a_ b_)
  (Gw:q1k (.ref aK) "signs" = a_ b_)
  (Ci:q1k (.ref aK) "standing" = a_ b_)
  (Gx:q1k (.ref aK) "total" = a_ b_)
  (Jn:q1k (.ref aK) "tree" = a_ b_)
  (Pz:y05 K z6 "Folding" = a_ (c_ aC))
  (MS:y0q K aC y2D=true)
  (MT:y0u K aC=true)
  (MU:y0C K aC=true)
  (MV:q1k (.ref aC) "__setattr__" = a_ (a_ (.builtin "object.__setattr__")))
  (MW:y0L K aC=true)
  (MX:Io K (.ref aC)=true)
  (Bi:q1k (.ref aC) "failed" = a_ b_)
  (Ds:q1k (.ref aC) "kept" = a_ b_)
  (Bj:q1k (.ref aC) "leaves" = a_ b_)
  (Dt:q1k (.ref aC) "made" = a_ b_)
  (Cj:q1k (.ref aC) "marks" = a_ b_)
  (Ck:q1k (.ref aC) "signs" = a_ b_)
  (yQ:q1k (.ref aC) "standing" = a_ b_)
  (Cm:q1k (.ref aC) "total" = a_ b_)
  (Du:q1k (.ref aC) "tree" = a_ b_)
  (Cn:MtX K aG "__init__" "Count.__init__" nF)
  (Dv:MtX K aG "content" "Count.content" oS)
  (Jo:MtX K aG "hear" "Count.hear" uD)
  (Bk:MtX K aF "__init__" "Choice.__init__" mL)
  (Co:MtX K aF "content" "Choice.content" nI)
  (Gy:MtX K aF "hear" "Choice.hear" sC)
  (FT:MtX K aR "__init__" "Bag.__init__" qP)
  (Gz:MtX K aR "content" "Bag.content" sD)
  (MY:MtX K aR "hear" "Bag.hear" zW)
  (Cp:MtX K aH "__init__" "Marks.__init__" nH)
  (Jp:MtX K aH "rows" "Marks.rows" uK)
  (Cq:MtX K aI "__init__" "Signs.__init__" nG)
  (Jq:MtX K aI "rows" "Signs.rows" uM)
  (Dw:MtX K aN "__init__" "Text.__init__" oR)
  (FU:MtX K aN "content" "Text.content" qR)
  (Dx:MtX K aK "__init__" "Tree.__init__" oQ)
  (Ll:MtX K aK "fill" "Tree.fill" wH)
  (Lm:MtX K aK "hear" "Tree.hear" wG)
  (Cr:MtX K aK "hear_make" "Tree.hear_make" nD)
  (Cs:MtX K aK "hear_move" "Tree.hear_move" nE)
  (FV:MtX K aK "kind_of" "Tree.kind_of" qO)
  (Ln:MtX K aK "lost" "Tree.lost" wL)
  (MZ:MtX K aK "put" "Tree.put" zX)
  (Lo:MtX K aK "ring" "Tree.ring" wF)
  (Lp:MtX K aK "rows" "Tree.rows" wJ)
  (Jr:MtX K aK "takes" "Tree.takes" uE)
  (Af:MtX K aC "__init__" "Folding.__init__" kU)
  (Ag:MtX K aC "add_leaf" "Folding.add_leaf" kR)
  (FW:MtX K aC "base" "Folding.base" qS)
  (xJ:MtX K aC "content_of" "Folding.content_of" jK)
  (FX:MtX K aC "hear" "Folding.hear" qQ)
  (yR:MtX K aC "hear_tree" "Folding.hear_tree" kF)
  (PB:DfX K "_law_cell_at" yB)
  (T8:DfX K "_law_stream" AV)
  (VA:DfX K "_law_hands" DV)
  (Zx:DfX K "_law_act" NS)
  (VB:DfX K "_law_deeds" DW)
  (Zy:DfX K "_law_key" NT)
  (T9:DfX K "covers" AW)
  (N0:DfX K "place_of" uF)
  (N1:DfX K "stand_of" uG)
  (PC:DfX K "leaf_of" yC)
  (N2:DfX K "kind_for" uH)
  (VC:DfX K "stamp" DX)
  (Y5:DfX K "rank" IS)
  (N3:DfX K "in_order" uJ)
  (PD:DfX K "rank_of" yD)
  (N4:DfX K "row_rank" uL)
  (Lq:DfX K "row_thing" rR)
  (Y6:DfX K "fold" IX)
  (VD:DfX K "empty" DY)
  (Zz:y05 K z6 "law" = a_ (c_ SJ))
  {Y7 T' NZ Ta Js Tb:r_} {Y8 Tc:A_ td} {VE:m_ 0}
  (ZA:K.lookup SJ=a_ ⟨Y7,Y8,.func (y04 "law" "law" (lX B2) (jP B2) (aO B2) .none T' NZ Ta Tc Js Tb),VE⟩)
  (ZC:y2w K Js "law" = true)
  (ZD:Io K (.ref SJ)=true)
  {av:q1m 0} {bj:Nat}
  (N5:y05 K z6 "KIND_FOR" = a_ (c_ rB))
  (dj:K.lookup rB=a_ ⟨.type "dict",b_,.dict av bj,#[]⟩)
  (di:GEs w.params [("add","count"),("choose","choice"),("put","bag"),("take","bag"),("write","text"),("cut","text"),("mark","text"),("clear","text")] av.toList)
  (dh:(rB == y0o)=false)
  {a7:q0l 0} {eu:Nat} {jc:m_ 0}
  (Y9:y05 K z6 "ROOT" = a_ (c_ Je))
  (j5:K.lookup Je=a_ ⟨.type "tuple",b_,.seq a7 eu,jc⟩)
  (ko:bH [.str "",.int (0)] a7.toList)
  (lj:a7.size<=yo)
  : ∃fd:yw,(∀(s:s_)(v:r_),BindsTo s fd ⟨[v],[]⟩ [("_law_script",v)])/\∀base:v_,K.In base->base.Ns z6 mg->bD l.prog w K mg base CX0 10 fa fd ["_law_script"] (spL K):=by
 let e:=hfa.symm.trans (y0Y X G Zz);cases e
 let dN:(h_ 0) "Count" = a_ aG:=(q0k 0);let bW:q0I aG:=⟨SK,SL,SM,SN⟩;let Fp:mg "Count" = c_ aG:=y0Y X G Vl;let cP:(h_ 0) "Choice" = a_ aF:=((V_ 0).trans (q0k 0));let bL:q0I aF:=⟨Pt,Pu,Pv,Pw⟩;let C3:mg "Choice" = c_ aF:=y0Y X G SS;let iS:(h_ 0) "Bag" = a_ aR:=((V_ 0).trans ((V_ 0).trans (q0k 0)));let dY:q0I aR:=⟨XX,XY,XZ,Y0⟩;let ME:mg "Bag" = c_ aR:=y0Y X G Zw;let iA:(h_ 0) "Marks" = a_ aH:=((V_ 0).trans ((V_ 0).trans ((V_ 0).trans (q0k 0))));let cQ:q0I aH:=⟨SU,SV,SX,SY⟩;let Fm:mg "Marks" = c_ aH:=y0Y X G Vm;let iB:(h_ 0) "Signs" = a_ aI:=((V_ 0).trans ((V_ 0).trans ((V_ 0).trans ((V_ 0).trans (q0k 0)))));let cR:q0I aI:=⟨T2,T3,T4,T5⟩;let Fo:mg "Signs" = c_ aI:=y0Y X G Vn;let yF:(h_ 0) "Text" = a_ aN:=((V_ 0).trans ((V_ 0).trans ((V_ 0).trans ((V_ 0).trans ((V_ 0).trans (q0k 0))))));let iX:q0I aN:=⟨Vo,Vp,Vq,Vr⟩;let J4:mg "Text" = c_ aN:=y0Y X G Y3;let bG:(h_ 0) "Tree" = a_ aK:=((V_ 0).trans ((V_ 0).trans ((V_ 0).trans ((V_ 0).trans ((V_ 0).trans ((V_ 0).trans (q0k 0)))))));let aW:q0I aK:=⟨Vu,Vv,Vw,Vx⟩;let yG:mg "Tree" = c_ aK:=y0Y X G Y4;let cG:(h_ 0) "Folding" = a_ aC:=((V_ 0).trans ((V_ 0).trans ((V_ 0).trans ((V_ 0).trans ((V_ 0).trans ((V_ 0).trans ((V_ 0).trans (q0k 0))))))));let bJ:q0I aC:=⟨MS,MT,MU,MV⟩;let Ab:mg "Folding" = c_ aC:=y0Y X G Pz;let wR:mg "KIND_FOR" = c_ rB:=y0Y X G N5;let au:Xx (cC w K (h_ 0)) rB [("add","count"),("choose","choice"),("put","bag"),("take","bag"),("write","text"),("cut","text"),("mark","text"),("clear","text")]:=⟨dh,nofun,av,bj,dj,di⟩;let IZ:mg "ROOT" = c_ Je:=y0Y X G Y9;let cp:Xo K Je [.str "",.int (0)]:=⟨_,a7,eu,[.str "",.int (0)],j5,rfl,rfl,lj,ko,rfl,rfl⟩;let fQ:eK (cC w K (h_ 0)) "failed" := λc a hc=>by
  let aa:(h_ 0) c=a_ a:=hc;dsimp only[clF]at aa;by_cases cL:c="Count"
  ·rw[if_pos cL]at aa;cases aa
   show⟨bW,Di⟩
  rw[if_neg cL]at aa;by_cases bX:c="Choice"
  ·rw[if_pos bX]at aa;cases aa
   show⟨bL,Ce⟩
  rw[if_neg bX]at aa;by_cases iG:c="Bag"
  ·rw[if_pos iG]at aa;cases aa
   show⟨dY,Gh⟩
  rw[if_neg iG]at aa;by_cases cM:c="Marks"
  ·rw[if_pos cM]at aa;cases aa
   show⟨cQ,Do⟩
  rw[if_neg cM]at aa;by_cases cN:c="Signs"
  ·rw[if_pos cN]at aa;cases aa
   show⟨cR,Dq⟩
  rw[if_neg cN]at aa;by_cases dZ:c="Text"
  ·rw[if_pos dZ]at aa;cases aa
   show⟨iX,FN⟩
  rw[if_neg dZ]at aa;by_cases eB:c="Tree"
  ·rw[if_pos eB]at aa;cases aa
   show⟨aW,FP⟩
  rw[if_neg eB]at aa;by_cases bM:c="Folding"
  ·rw[if_pos bM]at aa;cases aa
   show⟨bJ,Bi⟩
  rw[if_neg bM]at aa;cases aa
 let yE:eK (cC w K (h_ 0)) "kept" := λc a hc=>by
  let aa:(h_ 0) c=a_ a:=hc;dsimp only[clF]at aa;by_cases cL:c="Count"
  ·rw[if_pos cL]at aa;cases aa
   show⟨bW,Ge⟩
  rw[if_neg cL]at aa;by_cases bX:c="Choice"
  ·rw[if_pos bX]at aa;cases aa
   show⟨bL,FD⟩
  rw[if_neg bX]at aa;by_cases iG:c="Bag"
  ·rw[if_pos iG]at aa;cases aa
   show⟨dY,Li⟩
  rw[if_neg iG]at aa;by_cases cM:c="Marks"
  ·rw[if_pos cM]at aa;cases aa
   show⟨cQ,Gj⟩
  rw[if_neg cM]at aa;by_cases cN:c="Signs"
  ·rw[if_pos cN]at aa;cases aa
   show⟨cR,Gn⟩
  rw[if_neg cN]at aa;by_cases dZ:c="Text"
  ·rw[if_pos dZ]at aa;cases aa
   show⟨iX,Ji⟩
  rw[if_neg dZ]at aa;by_cases eB:c="Tree"
  ·rw[if_pos eB]at aa;cases aa
   show⟨aW,Jl⟩
  rw[if_neg eB]at aa;by_cases bM:c="Folding"
  ·rw[if_pos bM]at aa;cases aa
   show⟨bJ,Ds⟩
  rw[if_neg bM]at aa;cases aa
 let fC:eK (cC w K (h_ 0)) "leaves" := λc a hc=>by
  let aa:(h_ 0) c=a_ a:=hc;dsimp only[clF]at aa;by_cases cL:c="Count"
  ·rw[if_pos cL]at aa;cases aa
   show⟨bW,Dj⟩
  rw[if_neg cL]at aa;by_cases bX:c="Choice"
  ·rw[if_pos bX]at aa;cases aa
   show⟨bL,Cf⟩
  rw[if_neg bX]at aa;by_cases iG:c="Bag"
  ·rw[if_pos iG]at aa;cases aa
   show⟨dY,Gi⟩
  rw[if_neg iG]at aa;by_cases cM:c="Marks"
  ·rw[if_pos cM]at aa;cases aa
   show⟨cQ,Dp⟩
  rw[if_neg cM]at aa;by_cases cN:c="Signs"
  ·rw[if_pos cN]at aa;cases aa
   show⟨cR,Dr⟩
  rw[if_neg cN]at aa;by_cases dZ:c="Text"
  ·rw[if_pos dZ]at aa;cases aa
   show⟨iX,FO⟩
  rw[if_neg dZ]at aa;by_cases eB:c="Tree"
  ·rw[if_pos eB]at aa;cases aa
   show⟨aW,FQ⟩
  rw[if_neg eB]at aa;by_cases bM:c="Folding"
  ·rw[if_pos bM]at aa;cases aa
   show⟨bJ,Bj⟩
  rw[if_neg bM]at aa;cases aa
 let cF:eK (cC w K (h_ 0)) "made" := λc a hc=>by
  let aa:(h_ 0) c=a_ a:=hc;dsimp only[clF]at aa;by_cases cL:c="Count"
  ·rw[if_pos cL]at aa;cases aa
   show⟨bW,Gf⟩
  rw[if_neg cL]at aa;by_cases bX:c="Choice"
  ·rw[if_pos bX]at aa;cases aa
   show⟨bL,FF⟩
  rw[if_neg bX]at aa;by_cases iG:c="Bag"
  ·rw[if_pos iG]at aa;cases aa
   show⟨dY,Lj⟩
  rw[if_neg iG]at aa;by_cases cM:c="Marks"
  ·rw[if_pos cM]at aa;cases aa
   show⟨cQ,Gk⟩
  rw[if_neg cM]at aa;by_cases cN:c="Signs"
  ·rw[if_pos cN]at aa;cases aa
   show⟨cR,Gp⟩
  rw[if_neg cN]at aa;by_cases dZ:c="Text"
  ·rw[if_pos dZ]at aa;cases aa
   show⟨iX,Jj⟩
  rw[if_neg dZ]at aa;by_cases eB:c="Tree"
  ·rw[if_pos eB]at aa;cases aa
   show⟨aW,Jm⟩
  rw[if_neg eB]at aa;by_cases bM:c="Folding"
  ·rw[if_pos bM]at aa;cases aa
   show⟨bJ,Dt⟩
  rw[if_neg bM]at aa;cases aa
 let sX:eK (cC w K (h_ 0)) "marks" := λc a hc=>by
  let aa:(h_ 0) c=a_ a:=hc;dsimp only[clF]at aa;by_cases cL:c="Count"
  ·rw[if_pos cL]at aa;cases aa
   show⟨bW,FA⟩
  rw[if_neg cL]at aa;by_cases bX:c="Choice"
  ·rw[if_pos bX]at aa;cases aa
   show⟨bL,Dk⟩
  rw[if_neg bX]at aa;by_cases iG:c="Bag"
  ·rw[if_pos iG]at aa;cases aa
   show⟨dY,Jf⟩
  rw[if_neg iG]at aa;by_cases cM:c="Marks"
  ·rw[if_pos cM]at aa;cases aa
   show⟨cQ,FH⟩
  rw[if_neg cM]at aa;by_cases cN:c="Signs"
  ·rw[if_pos cN]at aa;cases aa
   show⟨cR,FK⟩
  rw[if_neg cN]at aa;by_cases dZ:c="Text"
  ·rw[if_pos dZ]at aa;cases aa
   show⟨iX,Gr⟩
  rw[if_neg dZ]at aa;by_cases eB:c="Tree"
  ·rw[if_pos eB]at aa;cases aa
   show⟨aW,Gv⟩
  rw[if_neg eB]at aa;by_cases bM:c="Folding"
  ·rw[if_pos bM]at aa;cases aa
   show⟨bJ,Cj⟩
  rw[if_neg bM]at aa;cases aa
 let sY:eK (cC w K (h_ 0)) "signs" := λc a hc=>by
  let aa:(h_ 0) c=a_ a:=hc;dsimp only[clF]at aa;by_cases cL:c="Count"
  ·rw[if_pos cL]at aa;cases aa
   show⟨bW,FB⟩
  rw[if_neg cL]at aa;by_cases bX:c="Choice"
  ·rw[if_pos bX]at aa;cases aa
   show⟨bL,Dl⟩
  rw[if_neg bX]at aa;by_cases iG:c="Bag"
  ·rw[if_pos iG]at aa;cases aa
   show⟨dY,Jg⟩
  rw[if_neg iG]at aa;by_cases cM:c="Marks"
  ·rw[if_pos cM]at aa;cases aa
   show⟨cQ,FI⟩
  rw[if_neg cM]at aa;by_cases cN:c="Signs"
  ·rw[if_pos cN]at aa;cases aa
   show⟨cR,FL⟩
  rw[if_neg cN]at aa;by_cases dZ:c="Text"
  ·rw[if_pos dZ]at aa;cases aa
   show⟨iX,Gs⟩
  rw[if_neg dZ]at aa;by_cases eB:c="Tree"
  ·rw[if_pos eB]at aa;cases aa
   show⟨aW,Gw⟩
  rw[if_neg eB]at aa;by_cases bM:c="Folding"
  ·rw[if_pos bM]at aa;cases aa
   show⟨bJ,Ck⟩
  rw[if_neg bM]at aa;cases aa
 let aY:eK (cC w K (h_ 0)) "standing" := λc a hc=>by
  let aa:(h_ 0) c=a_ a:=hc;dsimp only[clF]at aa;by_cases cL:c="Count"
  ·rw[if_pos cL]at aa;cases aa
   show⟨bW,Bf⟩
  rw[if_neg cL]at aa;by_cases bX:c="Choice"
  ·rw[if_pos bX]at aa;cases aa
   show⟨bL,Ae⟩
  rw[if_neg bX]at aa;by_cases iG:c="Bag"
  ·rw[if_pos iG]at aa;cases aa
   show⟨dY,Dn⟩
  rw[if_neg iG]at aa;by_cases cM:c="Marks"
  ·rw[if_pos cM]at aa;cases aa
   show⟨cQ,Bg⟩
  rw[if_neg cM]at aa;by_cases cN:c="Signs"
  ·rw[if_pos cN]at aa;cases aa
   show⟨cR,Bh⟩
  rw[if_neg cN]at aa;by_cases dZ:c="Text"
  ·rw[if_pos dZ]at aa;cases aa
   show⟨iX,Cg⟩
  rw[if_neg dZ]at aa;by_cases eB:c="Tree"
  ·rw[if_pos eB]at aa;cases aa
   show⟨aW,Ci⟩
  rw[if_neg eB]at aa;by_cases bM:c="Folding"
  ·rw[if_pos bM]at aa;cases aa
   show⟨bJ,yQ⟩
  rw[if_neg bM]at aa;cases aa
 let mN:eK (cC w K (h_ 0)) "total" := λc a hc=>by
  let aa:(h_ 0) c=a_ a:=hc;dsimp only[clF]at aa;by_cases cL:c="Count"
  ·rw[if_pos cL]at aa;cases aa
   show⟨bW,FC⟩
  rw[if_neg cL]at aa;by_cases bX:c="Choice"
  ·rw[if_pos bX]at aa;cases aa
   show⟨bL,Dm⟩
  rw[if_neg bX]at aa;by_cases iG:c="Bag"
  ·rw[if_pos iG]at aa;cases aa
   show⟨dY,Jh⟩
  rw[if_neg iG]at aa;by_cases cM:c="Marks"
  ·rw[if_pos cM]at aa;cases aa
   show⟨cQ,FJ⟩
  rw[if_neg cM]at aa;by_cases cN:c="Signs"
  ·rw[if_pos cN]at aa;cases aa
   show⟨cR,FM⟩
  rw[if_neg cN]at aa;by_cases dZ:c="Text"
  ·rw[if_pos dZ]at aa;cases aa
   show⟨iX,Gu⟩
  rw[if_neg dZ]at aa;by_cases eB:c="Tree"
  ·rw[if_pos eB]at aa;cases aa
   show⟨aW,Gx⟩
  rw[if_neg eB]at aa;by_cases bM:c="Folding"
  ·rw[if_pos bM]at aa;cases aa
   show⟨bJ,Cm⟩
  rw[if_neg bM]at aa;cases aa
 let iY:eK (cC w K (h_ 0)) "tree" := λc a hc=>by
  let aa:(h_ 0) c=a_ a:=hc;dsimp only[clF]at aa;by_cases cL:c="Count"
  ·rw[if_pos cL]at aa;cases aa
   show⟨bW,Gg⟩
  rw[if_neg cL]at aa;by_cases bX:c="Choice"
  ·rw[if_pos bX]at aa;cases aa
   show⟨bL,FG⟩
  rw[if_neg bX]at aa;by_cases iG:c="Bag"
  ·rw[if_pos iG]at aa;cases aa
   show⟨dY,Lk⟩
  rw[if_neg iG]at aa;by_cases cM:c="Marks"
  ·rw[if_pos cM]at aa;cases aa
   show⟨cQ,Gm⟩
  rw[if_neg cM]at aa;by_cases cN:c="Signs"
  ·rw[if_pos cN]at aa;cases aa
   show⟨cR,Gq⟩
  rw[if_neg cN]at aa;by_cases dZ:c="Text"
  ·rw[if_pos dZ]at aa;cases aa
   show⟨iX,Jk⟩
  rw[if_neg dZ]at aa;by_cases eB:c="Tree"
  ·rw[if_pos eB]at aa;cases aa
   show⟨aW,Jn⟩
  rw[if_neg eB]at aa;by_cases bM:c="Folding"
  ·rw[if_pos bM]at aa;cases aa
   show⟨bJ,Du⟩
  rw[if_neg bM]at aa;cases aa
 refine⟨y04 "law" "law" (lX B2) (jP B2) (aO B2) .none T' NZ Ta Tc Js Tb,λs v=>.of_eq rfl,λbase _ _=>?_⟩;let Cd:Fe l.prog w K mg base (h_ 0):=uO X G PB (λ_ _ _ _ _ _ us hl=>xI us hl λ_ _=>rfl) λF=>Mz hbn F;let sW:BR l.prog w K mg base (h_ 0):=uO X G T8 (λ_ _ _ _ _ _ us hl=>xI us hl λ_ _=>rfl) λF=>Pi hbn F;let Jb:KZ l.prog w K mg base (h_ 0):=uO X G VA (λ_ _ _ _ _ _ us hl=>xI us hl λ_ _=>rfl) λF=>Ss hbn F sW;let Sv:Sq l.prog w K mg base (h_ 0):=uO X G Zx (λ_ _ _ _ _ _ us hl=>MR us hl λ_ _ _=>rfl) λF=>XN hbn F;let Jc:L0 l.prog w K mg base (h_ 0):=uO X G VB (λ_ _ _ _ _ _ us hl=>xI us hl λ_ _=>rfl) λF=>Su hbn F sW Sv;let fR:q0w (h_ 0) 1 aK "__init__" ["self"] 1 cT:=L4 Dx Vy Vz (λ_ _ _ _ _ _ us hl=>oZ us hl λ_=>rfl) λF=>BS hbn F fQ cF;let SH:Sr l.prog w K mg base (h_ 0):=uO X G Zy (λ_ _ _ _ _ _ us hl=>oZ us hl λ_=>rfl) λF=>XO hbn F;let cU:J_ (h_ 0) 1 aG "hear" ["self","deed"] 2 dS:=pR Jo (λ_ _ _ _ _ _ us hl=>xI us hl λ_ _=>rfl) λF=>G8 hbn F mN;let Fk:HI l.prog w K mg base (h_ 0):=uO X G T9 (λ_ _ _ _ _ _ us hl=>xI us hl λ_ _=>rfl) λF=>Pj hbn F;let cH:J_ (h_ 0) 2 aF "hear" ["self","deed"] 2 dB:=pR Gy (λ_ _ _ _ _ _ us hl=>xI us hl λ_ _=>rfl) λF=>Fj hbn F Fk aY;let eI:J_ (h_ 0) 1 aR "hear" ["self","deed"] 2 gE:=pR MY (λ_ _ _ _ _ _ us hl=>xI us hl λ_ _=>rfl) λF=>L5 hbn F aY;let hZ:J_ (h_ 0) 1 aK "kind_of" ["self","thing"] 2 dF:=pR FV (λ_ _ _ _ _ _ us hl=>xI us hl λ_ _=>rfl) λF=>D5 hbn F IZ cp cF;let jU:J_ (h_ 0) 2 aK "takes" ["self","holder","spot"] 3 eO:=pR Jr (λ_ _ _ _ _ _ us hl=>MR us hl λ_ _ _=>rfl) λF=>G9 hbn F bG aW hZ;let A0:CT l.prog w K mg base (h_ 0):=uO X G N0 (λ_ _ _ _ _ _ us hl=>xI us hl λ_ _=>rfl) λF=>L6 hbn F;let nJ:wM l.prog w K mg base (h_ 0):=uO X G N1 (λ_ _ _ _ _ _ us hl=>xI us hl λ_ _=>rfl) λF=>L7 hbn F A0;let nL:J_ (h_ 0) 3 aK "hear_make" ["self","name","act"] 3 eZ:=pR Cr (λ_ _ _ _ _ _ us hl=>MR us hl λ_ _ _=>rfl) λF=>B5 hbn F nJ bG aW jU cF;let nK:J_ (h_ 0) 1 aK "put" ["self","thing","holder","spot"] 4 fJ:=pR MZ (λ_ _ _ _ _ _ us hl=>zaW us hl λ_ _ _ _=>rfl) λF=>L8 hbn F cF;let wN:J_ (h_ 0) 1 aK "ring" ["self","thing","holder"] 3 lH:=pR Lo (λ_ _ _ _ _ _ us hl=>MR us hl λ_ _ _=>rfl) λF=>J1 hbn F cF;let nM:J_ (h_ 0) 3 aK "hear_move" ["self","name","act"] 3 fB:=pR Cs (λ_ _ _ _ _ _ us hl=>MR us hl λ_ _ _=>rfl) λF=>B6 hbn F nJ bG aW nK wN jU fQ;let dJ:J_ (h_ 0) 4 aK "hear" ["self","deed"] 2 cY:=pR Lm (λ_ _ _ _ _ _ us hl=>xI us hl λ_ _=>rfl) λF=>J3 hbn F bG aW nL nM nK cF;let nP:q0w (h_ 0) 1 aG "__init__" ["self"] 1 jQ:=L4 Cn SQ SR (λ_ _ _ _ _ _ us hl=>oZ us hl λ_=>rfl) λF=>B9 hbn F mN;let mO:q0w (h_ 0) 1 aF "__init__" ["self"] 1 fV:=L4 Bk Px Py (λ_ _ _ _ _ _ us hl=>oZ us hl λ_=>rfl) λF=>A5 hbn F aY;let qW:q0w (h_ 0) 1 aR "__init__" ["self"] 1 jF:=L4 FT Y1 Y2 (λ_ _ _ _ _ _ us hl=>oZ us hl λ_=>rfl) λF=>D6 hbn F aY;let nO:q0w (h_ 0) 1 aI "__init__" ["self"] 1 jR:=L4 Cq T6 T7 (λ_ _ _ _ _ _ us hl=>oZ us hl λ_=>rfl) λF=>B' hbn F yE;let nN:q0w (h_ 0) 1 aH "__init__" ["self"] 1 jS:=L4 Cp SZ T1 (λ_ _ _ _ _ _ us hl=>oZ us hl λ_=>rfl) λF=>Ba hbn F aY;let oU:q0w (h_ 0) 3 aN "__init__" ["self"] 1 kM:=L4 Dw Vs Vt (λ_ _ _ _ _ _ us hl=>oZ us hl λ_=>rfl) λF=>BY hbn F iA cQ iB cR nN nO Fm Fo sX sY;let C6:Ff l.prog w K mg base (h_ 0):=uO X G PC (λ_ _ _ _ _ _ us hl=>oZ us hl λ_=>rfl) λF=>MD hbn F dN bW cP bL iS dY yF iX qW mO nP oU ME C3 Fp J4;let kW:J_ (h_ 0) 6 aC "add_leaf" ["self","thing","kind"] 3 dR:=pR Ag (λ_ _ _ _ _ _ us hl=>MR us hl λ_ _ _=>rfl) λF=>yL hbn F C6 fC;let kG:J_ (h_ 0) 7 aC "hear_tree" ["self","deed"] 2 dH:=pR yR (λ_ _ _ _ _ _ us hl=>xI us hl λ_ _=>rfl) λF=>wQ hbn F dN bW cP bL iS dY bG aW cG bJ eI cH cU kW dJ iY;let A8:CU l.prog w K mg base (h_ 0):=uO X G N2 (λ_ _ _ _ _ _ us hl=>oZ us hl λ_=>rfl) λF=>Lb hbn F wR au;let iC:J_ (h_ 0) 8 aC "hear" ["self","deed"] 2 dX:=pR FX (λ_ _ _ _ _ _ us hl=>xI us hl λ_ _=>rfl) λF=>D9 hbn F A8 dN bW cP bL iS dY bG aW cG bJ eI cH cU kG dJ hZ fC iY;let wV:J_ (h_ 0) 1 aK "fill" ["self","rows","lost"] 3 lI:=pR Ll (λ_ _ _ _ _ _ us hl=>MR us hl λ_ _ _=>rfl) λF=>J5 hbn F fQ cF;let kZ:q0w (h_ 0) 3 aC "__init__" ["self","base"] 2 fK:=L4 Af MW MX (λ_ _ _ _ _ _ us hl=>xI us hl λ_ _=>rfl) λF=>yP hbn F bG aW fR wV yG fC iY;let J8:L1 l.prog w K mg base (h_ 0):=uO X G VC (λ_ _ _ _ _ _ us hl=>oZ us hl λ_=>rfl) λF=>SD hbn F;let MI:NU l.prog w K mg base (h_ 0):=uO X G Y5 (λ_ _ _ _ _ _ us hl=>oZ us hl λ_=>rfl) λF=>Vb hbn F J8;let Aa:CV l.prog w K mg base (h_ 0):=uO X G N3 (λ_ _ _ _ _ _ us hl=>oZ us hl λ_=>rfl) λF=>Le hbn F MI;let oX:J_ (h_ 0) 1 aG "content" ["self"] 1 iM:=pR Dv (λ_ _ _ _ _ _ us hl=>oZ us hl λ_=>rfl) λF=>C8 hbn F mN;let nQ:J_ (h_ 0) 1 aF "content" ["self"] 1 gY:=pR Co (λ_ _ _ _ _ _ us hl=>oZ us hl λ_=>rfl) λF=>Bd hbn F aY;let sF:J_ (h_ 0) 1 aR "content" ["self"] 1 kH:=pR Gz (λ_ _ _ _ _ _ us hl=>oZ us hl λ_=>rfl) λF=>Fu hbn F aY;let eS:J_ (h_ 0) 1 aH "rows" ["self"] 1 eQ:=pR Jp (λ_ _ _ _ _ _ us hl=>oZ us hl λ_=>rfl) λF=>Ga hbn F aY;let C9:Fg l.prog w K mg base (h_ 0):=uO X G PD (λ_ _ _ _ _ _ us hl=>oZ us hl λ_=>rfl) λF=>MJ hbn F;let A9:CW l.prog w K mg base (h_ 0):=uO X G N4 (λ_ _ _ _ _ _ us hl=>oZ us hl λ_=>rfl) λF=>Lf hbn F C9;let eT:J_ (h_ 0) 5 aI "rows" ["self"] 1 eR:=pR Jq (λ_ _ _ _ _ _ us hl=>oZ us hl λ_=>rfl) λF=>Gb hbn F A9 yE;let wW:B4 l.prog w K mg base (h_ 0):=uO X G Lq (λ_ _ _ _ _ _ us hl=>oZ us hl λ_=>rfl) λF=>J9 hbn F;let fZ:J_ (h_ 0) 4 aK "rows" ["self"] 1 eX:=pR Lp (λ_ _ _ _ _ _ us hl=>oZ us hl λ_=>rfl) λF=>J' hbn F wW cF;let qX:J_ (h_ 0) 6 aN "content" ["self"] 1 jG:=pR FU (λ_ _ _ _ _ _ us hl=>oZ us hl λ_=>rfl) λF=>Da hbn F iA cQ iB cR bG aW eS eT fZ sX sY;let jO:J_ (h_ 0) 7 aC "content_of" ["self","thing"] 2 cZ:=pR xJ (λ_ _ _ _ _ _ us hl=>xI us hl λ_ _=>rfl) λF=>vE hbn F dN bW cP bL iS dY yF iX sF nQ oX qX fC;let lQ:J_ (h_ 0) 1 aK "lost" ["self"] 1 fW:=pR Ln (λ_ _ _ _ _ _ us hl=>oZ us hl λ_=>rfl) λF=>Ja hbn F fQ;let qY:J_ (h_ 0) 8 aC "base" ["self"] 1 gZ:=pR FW (λ_ _ _ _ _ _ us hl=>oZ us hl λ_=>rfl) λF=>Dg hbn F iA cQ iB cR bG aW cG bJ jO eS eT lQ fZ iY;let MQ:NV l.prog w K mg base (h_ 0):=uO X G Y6 (λ_ _ _ _ _ _ us hl=>xI us hl λ_ _=>rfl) λF=>Ve hbn F Aa dN bW cP bL iS dY bG aW cG bJ eI cH cU kZ qY iC dJ Ab;let Jd:L3 l.prog w K mg base (h_ 0):=uO X G VD (λ_ _ _ _ _ _ us hl=>match us,hl with|[],_=>rfl) λF=>SF hbn F
 refine(XT (cl:=h_ 0) hbn (E7 (st:=B2) ZA ZC ZD) Cd Jb Jc SH MQ Jd dN bW cP bL iS dY iA cQ iB cR bG aW cG bJ eI cH cU iC eS eT fR dJ lQ fZ yG).imp λvs H Q E hh=>?_;let⟨a,ns,rfl,hO,hS,hl,hq⟩:=hh;show X7 (C:=cC w K (h_ 0)) hO hS (main ns hl) hq
theorem walk{l:PySem.W.OpenLaw}{q:w_}{loose:z_ Str}{XP:(n_ 0)->v_->Prop}{YP:w4->v_->Prop}{d:DefRec}{K:Params->yb}(hn:l.most=a_ 63)(p7:d.params.defaults=[])
  (hY:∀(w:w4)(h:v_),YP w h->(K w.params).In h)
  (F:∀(w:w4)(mg:n_ 0)(fa:td)(h:v_),(K w.params).In h->h.Ns z6 mg->mg d.name=c_ fa->
   ∃fd:yw,(∀(s:s_)(u:r_),BindsTo s fd ⟨[u],[]⟩ [("_law_script",u)])/\∀base:v_,(K w.params).In base->base.Ns z6 mg->bD l.prog w (K w.params) mg base CX0 10 fa fd ["_law_script"] (spL (K w.params))):
  PySem.W.WalkO q loose XP YP l.row.toRowW d [] (λf vs=>PySem.call f vs):=
 L2.walk_of (n:=63) (k:=10) (x:="_law_script") (CX:=λ_=>CX0) (sp:=λw=>spL (K w.params)) hn nofun p7 ⟨rfl,nofun,nofun⟩ hY F (λw H a ns hl hO hS=>⟨a,ns,rfl,hO,hS,hl,λ_=>rfl⟩) λ_ _ _ _ _ z=>z
end K62
open PySem PySem.W PyProof.Rows
set_option maxRecDepth 100000 in
set_option maxHeartbeats 0 in
inductive PySem.W.Fast:Prop|tw13480013680748730917|tw16493030303262520056|tw1692247831956360039|tw1639323264065623155|tw16012702472069112259|tw10769108857356759060|tw18108600755477903031|tw1146797283598449082|tw1634926259161965080|tw15731990455129519496|tw9790388431683356773|tw15845821768775195517|tw16008615821328485570|tw3365511667514035836|tw16691319694691957748|tw15807859321315495844|tw15098136644894628928|tw18007982338089073021|tw13223350286051948876|tw10314542878409392943|tw8540385557644348516|tw7401076565168625837|tw10134882225527707528|tw7784394858400425526|tw10715199754723892348|tw356948916568231346|tw15338951181811684813|tw10877363422464627602|tw16856962737077373583|tw7956542820579283437|tw4140317751746398890|tw16364508035463678097|tw11861437926326810504|tw8294426571889629211|tw13585331610914202108|tw3947261409465653017|tw906335633323452934|tw13025504830932757449|tw16760368251753245061|tw17199744196351412518|tw7822777525830046635|tw7021001852103827379|tw8510651668969786322|tw9323034797289035014|tw8753337544399439735|tw15792752461866425097|tw17381500013942990162|tw1118403044743481045|tw3060975281599166579|tw16100748096318693399|tw13172234069171416292|tw11018775890047242468|tw1408901901524441491|tw15475223140467272499|tw15979192091845938867|tw15895185855481604823|tw9487693810824716498|tw7030892562717664898|tw11524189989116874887|tw13438825613141628005|tw18293075437790765063|tw17309470594033915602|tw11130818708365011772|tw2074015927908968326|tw18078620325461914322|tw6387265374690700560|tw8439264939327594952|tw8964806901841259868|tw12402800641690223046|tw15836545447502550072|tw2618586409525869988|tw10822458627773967032|tw1226039124828089995|tw236221124129167737|tw2920036670532684742|tw13925369652936024309|tw13537084403555278657|tw16614035138492743499|tw1580414480906039675|tw13272575885640806144|tw16006562463451108945|tw8765198466896894817|tw8084479568375319024|tw10682414648576978584|tw1611135879233332086|tw15424828891574407201|tw13537284054452637155|tw15817024051707330295|tw16328346868503182207|tw9557293997248058720|tw16395919136368997793|tw1603261546712451518|tw11408822606205303099|tw10381862872514487560|tw8560816862078227541|tw15202587514989780205|tw3386989487975047720|tw6478288549704727509|tw14171370671699119742|tw14515019319404579664|tw6899570399434116002|tw4926580236900103868|tw5472088915128659184|tw7167073522845458548|tw5552458717807252164|tw11774868506694584570|tw5619661782012528531|tw14185539099922132695|tw7151826713569695083|tw11766612587629745854|tw1982998692737868938|tw11312857706266847426|tw675131863125724270|tw7252345130019687921|tw10580240245859335333|tw12535524843564228916|tw8704154721758033221|tw6298071821027644006|tw6814520828200839240|tw7975754525518640183|tw816173207413258492|tw17374143579716886482|tw13576076161125115008|tw17274174175582529819|tw16114963338588994204|tw7482993848737231583|tw6769413200396106152|tw8282407193748133416|tw2202563667823749767|tw2180181224847832447|tw18174983488326686003|tw4417778925272110758|tw14033717463039814531|tw17746202317423161930|tw18410524578503747639|tw2867139262921877494|tw9274128233550130058|tw1198688627256133327|tw498614549343022074|tw15118442938434348782|tw5591888220815660159|tw8311414504521349721|tw4686164492244418404|tw18304985738715106733|tw5288559979160254603|tw14669012904469164353|tw4721957267965627277|tw8467153454634351018|tw16674880711749799794|tw16722156624534194713|tw14930170883644937180|tw18141980094713820082|tw17487504005618708646|tw7710437325972186282|tw7521134975134539461|tw13129366941523607011|tw7876191531238301838|tw15855535733133566017|tw6297658834586547682|tw10192912774701692247|tw6945330533075243948|tw9849814327529291911|tw6520527381468297603|tw2338865448252520553|tw4897041991004111232|tw17907931325242506137|tw6759417420096658636|tw16795824092579639975|tw16988684881792277325|tw9734998695154434851|tw889049812140592268|tw12897872617874647183|tw16515842932152895733|tw13870799886422004528|tw7962687795342110657|tw12054330412618319884|tw8519966589990031243|tw14393325125366824112|tw4566448785341426556|tw7933892368664911122|tw15980743915537755556|tw9065843310720274146|tw18000848757435786100|tw14790512531147646684|tw17399031790828036732|tw4089555693136495906|tw11250451306993269580|tw12047492785164204395|tw8741118541343052018|tw493949759423630217|tw15705597284654767593|tw12467292091537512600|tw15754149272106379803|tw1288272229042340245|tw13824203315810855557|tw10612429236634483476|tw1100099657023072749|tw18044707082817124734|tw842310212349671166|tw13462447476258114382|tw16280105865535711858|tw14719287555715442352|tw7229762724666452433|tw6108375133917110746|tw6763222684767953738|tw6905742861319479855|tw9769113825476686280|tw15461181624269724184|tw12590401523936060107|tw3485760467347745793|tw13887440633838388695|tw13368069190522853766|tw9002412274651465090|tw10318554146072677617|tw8671494543270980877|tw7269848877210611182|tw2506059204735054154|tw3100285342706010738|tw272029112166374457|tw5832025532802052273|tw13849484513224676379|tw15217902555601749779|tw13728533831772651907|tw13393350955968792683|tw1158116157099377240|tw44099710842539326|tw6161911027649355534|tw4909432610799905614|tw6830466975071552200|tw10928258069018346245|tw10053181172293216934
end
theorem PySem.Challenge.cw_copymeet_k62_things_as_a_tree_has_them_holds : PySem.Challenge.rw_copymeet_k62_things_as_a_tree_has_them.Holds := by
 w_on; o_law; k_head; (case hw=>w_witness2)
 k_fill
 refine K62.walk (l:=PySem.Challenge.rw_copymeet_k62_things_as_a_tree_has_them) rfl rfl (fun w h Y=>PySem.W.kIn_of Y) ?F
 case F=>
  intro w mg fa h KX G hmg
  have hbn:∀ x∈K62.bsL,mg x=none:=fun x hx=>by
   iterate 9(rcases List.mem_cons.mp hx with rfl|hx;·exact PySem.W.mg_none_of KX G (by k_is))
   cases hx
  refine' K62.all_mk KX G hmg hbn ?h0 ?h1 ?h2 ?h3 ?h4 ?h5 ?h6 ?h7 ?h8 ?h9 ?h10 ?h11 ?h12 ?h13 ?h14 ?h15 ?h16 ?h17 ?h18 ?h19 ?h20 ?h21 ?h22 ?h23 ?h24 ?h25 ?h26 ?h27 ?h28 ?h29 ?h30 ?h31 ?h32 ?h33 ?h34 ?h35 ?h36 ?h37 ?h38 ?h39 ?h40 ?h41 ?h42 ?h43 ?h44 ?h45 ?h46 ?h47 ?h48 ?h49 ?h50 ?h51 ?h52 ?h53 ?h54 ?h55 ?h56 ?h57 ?h58 ?h59 ?h60 ?h61 ?h62 ?h63 ?h64 ?h65 ?h66 ?h67 ?h68 ?h69 ?h70 ?h71 ?h72 ?h73 ?h74 ?h75 ?h76 ?h77 ?h78 ?h79 ?h80 ?h81 ?h82 ?h83 ?h84 ?h85 ?h86 ?h87 ?h88 ?h89 ?h90 ?h91 ?h92 ?h93 ?h94 ?h95 ?h96 ?h97 ?h98 ?h99 ?h100 ?h101 ?h102 ?h103 ?h104 ?h105 ?h106 ?h107 ?h108 ?h109 ?h110 ?h111 ?h112 ?h113 ?h114 ?h115 ?h116 ?h117 ?h118 ?h119 ?h120 ?h121 ?h122 ?h123 ?h124 ?h125 ?h126 ?h127 ?h128 ?h129 ?h130 ?h131 ?h132 ?h133 ?h134 ?h135 ?h136 ?h137 ?h138 ?h139 ?h140 ?h141 ?h142 ?h143 ?h144 ?h145 ?h146 ?h147 ?h148 ?h149 ?h150 ?h151 ?h152 ?h153 ?h154 ?h155 ?h156 ?h157 ?h158 ?h159 ?h160 ?h161 ?h162 ?h163 ?h164 ?h165 ?h166 ?h167 ?h168 ?h169 ?h170 ?h171 ?h172 ?h173 ?h174 ?h175 ?h176 ?h177 ?h178 ?h179 ?h180 ?h181 ?h182 ?h183 ?h184 ?h185 ?h186 ?h187 ?h188 ?h189 ?h190
  case h0|h1|h2|h3|h4|h5|h6|h7|h8|h9|h10|h11|h12|h13|h14|h15|h16|h17|h18|h19|h20|h21|h22|h23|h24|h25|h26|h27|h28|h29|h30|h31|h32|h33|h34|h35|h36|h37|h38|h39|h40|h41|h42|h43|h44|h45|h46|h47|h48|h49|h50|h51|h52|h53|h54|h55|h56|h57|h58|h59|h60|h61|h62|h63|h64|h65|h66|h67|h68|h69|h70|h71|h72|h73|h74|h75|h76|h77|h78|h79|h80|h81|h82|h83|h84|h85|h86|h87|h88|h89|h90|h91|h92|h93|h94|h95|h96|h97|h98|h99|h100|h101|h102|h103|h104|h105|h106|h107|h108|h109|h110|h111|h112|h113|h114|h115|h116|h117|h118|h119|h120|h121|h122|h123|h124|h125|h126|h127=>k_is
  case h128|h129|h130|h131|h132|h133|h134|h135|h136|h137|h138|h139|h140|h141|h142|h143|h144|h145|h146|h147|h148|h149|h150|h151|h152|h153|h154|h155|h156|h157|h158|h159=>exact qb_ 0
  case h160|h161|h162|h163|h164|h165|h166|h167|h168|h169|h170|h171|h172|h173|h174|h175|h176|h177|h178=>exact qc_ 0
  case h179|h180|h181|h182|h183|h184|h187|h188=>k_is
  (case h185=>exact ⟨rfl,⟨_,rfl⟩,⟨_,rfl⟩,rfl,⟨_,rfl⟩,⟨_,rfl⟩,rfl,⟨_,rfl⟩,⟨_,rfl⟩,rfl,⟨_,rfl⟩,⟨_,rfl⟩,rfl,⟨_,rfl⟩,⟨_,rfl⟩,rfl,⟨_,rfl⟩,⟨_,rfl⟩,rfl,⟨_,rfl⟩,⟨_,rfl⟩,rfl,⟨_,rfl⟩,⟨_,rfl⟩,trivial⟩)
  (case h186=>decide +kernel)
  (case h189=>exact (.cons ⟨_,rfl⟩ (.cons ⟨_,rfl⟩ .nil)))
  (case h190=>decide +kernel)
