import PyProof.Rows.All
import Wide.All
import OpenK.AllK
import Wide.FinOn
import Lean
import PyProof.EqAt
import PyProof.EqKinds
import PyProof.TupleCall
import PyProof.Rows.SortShell
import PyProof.NeKinds
import KE.KDictOf
import PyProof.AttrMissHeap
import PyProof.WalksMore
import PyProof.MeetsDict
import KE.KDictList
import KE.KRevIter
import PyProof.DictItemsLoops
import PyProof.DictWalks
import KE.KSortTup
import KE.KDictSum
import PyProof.SumAny
import PyProof.Conv_int_bool
import PyProof.Conv_int
import KE.KRevSl
import PyProof.MeetsStr
import PyProof.StrCalls3
import PyProof.Rows.TupDisplay
import PyProof.ZipIter
import PyProof.Draws
import PyProof.EnumMake
import PyProof.PureStr
import PyProof.MeetsStr3
import PyProof.MeetsStr2
import PyProof.Rows.StrSplitMax
import KE.KIntText
import PyProof.Rows.StrKeys3
import PyProof.FString
import PyProof.StrBlock
import PyProof.StrReplace2
import PyProof.ReprRoads
import KE.IntBitsLaws
import PyProof.SliceList
import PyProof.MinMaxWalk
import PySem.Challenge.RW_copymeet_k63_each_leaf_hears_its_own
namespace PySem.W.Fast
set_option compiler.extract_closed false in
local macro_rules|`(universe $x)=>do let s:=x.getId.toString.toList.tail.map fun c=>if c=='!' then 22 else c.toNat-42;return Lean.mkNullNode (← (Array.range (s.length/10)).mapM fun i=>do return (← `(theorem $(Lean.mkIdent <|.mkSimple s!"tw{((s.drop (i*10)).take 10).foldl (85*·+·) 0}") : True:=⟨⟩)).raw.rewriteBottomUp (·.setInfo .none))
universe «.+W=Xv,e{FKrX16BG\dS94.>Um~b<3ff6ggmA8y]tLYq>!iakbngpa?||U>-*1R0^?F\R<I>5g>+/OcB?wSi/+Q2-ME9O^uuJ_d|k>/K}]nuYMbSp`{qh4`}2NS<Tfz+R!VJS.u_jULo>;/E.1YJUbtSU?[he88A>At?`<.k]7nNtlPzjLx9qgNp{cJ07yn\eeU[J{\v!W-B[8RjEoQ5m1</L~XF=?j4ei<|h?98]70MBi+hlWs+Jh}J]15l*f:.bpgNvA=ccL?=Yni|36yNYOv-pq7\KBj7R|wN<<<^6{0lM10mGoJ3w.N^TNT*4g_Y`wu\B4l^wn;59oY*pC?iNLRN`-UyPdNK:m*!AMZbiHrWnw\bc1n;NEflY|gtgU[?:uE=bX4M.12-QY7~1YnfvIwW;?dwe*nO\OGbg--gDcD[QxjgSl}WZ>!{s=,mWra|iJYK.[[`x}K*6vT.K>Ln~i2z7DgoFT\sR,\|8i-<sm2F4*Pr0:wmbPVNGVM\CH,;oiyo?Vu[,xAMSkCQ|qhaO4u{8dcVJSjhDx;y}B.1auHxJfRJHsE|F5>Srr34BaBz|sL!nD}mYd:*mXhyXr1e<pY\DPzDAk1`VSiMdy^;RSm<Tx/2-J?j<hb={52V~CkEx?9oA87g?EHov}\o|v.94QweppfUgdHo?qWztLxA/0*rVLaw4bPbf^Y~Wo1839QB>{x2\j1t+y2eQ6qJYP|W;z?vxBo6p0n5EkjMssS-\KUS}8\FSBth89l,<QEu!Cn0mV[zo7=7l|:pNQ5+3tFS{WE`3TiyO<wLW+jnX!*/,sE3ri+1Ob{xtyksgSGS~bBXRmTkd8+\S4Is`qo\D23<n`IieWF^.z]p^NgGSBnj6}~LXplACkGGv|?`I0`6XOL6k>w1.VdN:]cW*D/O?fEXF3bnqv}PkS>UVv4bdtvldGW8dA:3qBG-x-V<NzdW;a}S`/[,T7qx:dcr!qkaEx[nqhIUp0er,5noukZ5`CaD»
universe «N0nhNgy:lwoOyA>o>e903CY4iKlJC45OmEx,\d_|i8>8WckF*K;8t{k7BW|XHqErAVe0`m3HLXY>kjI.\v8e3I\Gk}M_|aIX7}5w`Xafc,V~H0MAOULJ94C-caMRXe5GV{X^[OW`I-CCi}BW~7y1E}0\a[:p|hPAHK>TJU^yZ+AWkv>hI+*H5jkm[\y2dbWf!_pzE`-1oOSq6JRve8.ny]~v^U]d=fxF}sjj\SfX:H<f+e,,G!5JeIaB*>Q}>9|6,fP+q6`\HFcT6h/NUPx45p70WsM,XbRxcw-?V-q4}Bq_p=\`.EENk^]4lxQ~CjZm6ntc|Lddl{+e?SqSw=7u1X]b7elU*b>A{4^8awNq,jC|[R->zx!Vebn_G_JpTPujFxY24\qUxsI4\-F[TJ+0hrvdAc-}R4|\}C3v1Pf2=^cNk|Pp.xpdpm<d?OWRs1cI,56!X~MwF<+HO/XYUBuPwV0kS=AD-g^M?VTfDxW]!]\oE3iWJOJMCuLH/x<-cxHkfZ[EIFoILOklsk[DF_Z\]4E{Fcut>X[}j0.|]H_5ip{Y:Bu+Kt1Y5y?Do`,`X<WNy^D_0*?HZ6qKuKxBN=~Bm/C?asaVuL3z+v\=}q7oCGUiPywYW<POsV/fl4T/7z{M>JXKND~Sl/x0>-bc.<t426EB5`r+j4Fe7rAhmMkTDia4avl5{59BGG+c2jC_Np0=KJr2]SwceM|5C\Q-Yi2~PQi/emXhJ=.h.WWCC_9UB5B25Z[HNDz?|*Mx`m{uSI>EEooa*P/7v[t|A5G,?0?iL\=-I5oH7i53xVi~O*LdO`:k^ufY8b`E?cuh6BxFKwCkQzh;4ldWH>=A.|uculspcdgh`4;W:kHaLaENPH3x?F_^{1JGm/s40]m60m+NzNr6Q02UX3{y,hm{jv-}{mmT0i}_F+vss<:;do>`j1xtbqstc.NEa|MaVHR[*1N]8h>.QM~znu/LO,eIZL];w2ML8L[-GAts-+5XvtO7K|9H»
universe «_4l~IRKe2lN\`?+sw}O{11w=*EvOnV__50,-TQ\/IUz:]g\{Va_Cxki{YgN=rzFAFn<m`UVf`]uC<b[*F?u`|*bNTy`d19Z\vu?MlDekj{+>d`!_iM,IkYBKK0v3+iR*UoeV[}5w?_n8tgKZc?;Xnb.7.+la6>ZCt*oG|FNt~|M-.WEA_^R7B68AB??*oXfEQNgNVorq_T^B0u.auMs0niKQWVbTvIX22ddIvf[[V61z:Z0.5`8QWGv^~~qz:,NMQD=R3Fjbm8[*l6sOjA\3v7O*avvrOB=U>xAvBt;14q![W~|eEl_Q-nWEOO!~od06XFq4Hz.Ma;V2v[2CvLqUD8UOJ_/q>:hCuSXX|]Zz1P}IA-G!L~SyWekXgoJp3y[-^`H]D\RtVzNI,\cdB2u,!i9-^f1IihW+7apBr+~8NKq<kV-DLe||Z0g\oe9T_u?g3{`s{uIhKrrsn|J[Gqqc\y^6Gw444l=BESq<;iAGOlGLUeK53E?`i_uma~1eeFTw33vV*0\GS*>lL4].c1;Ky\S9[q??Iuz2|/Vh.iQXs[Gx7^UU<k0F?.Zc|v1?p1R2F,>E9jhv51q<d]M8my;[,8u;JxT1CJsld~F96SLgan9rN]Y\.bt/EZLrFVmb,UhEx``pAd~iXwV>tO]wlD:aCEE_9nn\M^42Uq7|PbqFlF!a~\v]wHvmqSLzi/oc<}fc!xex6{TME^Kngl=*K9fD6Pp9`:oC2V?81vTO2Xbg~9GSEJy7Dv?xK+_zbi?:2ljX]KO5a{fs`}DlLqrO?po4!4,7lTfLZQ!0h,U2X,o7m4gv.VkT5JBSJr*l*][x[p:bfO3otA^~WNuN9<]Jr`-!,+H;>pua2!G\gTsb.C1smW`o7X7tud*`]SsWc/_:h_;a!+q:W]t[b9WUTgk-bmHrthI9_mhJTV..*[ik~qUU9Vnybe^j+^*`Tc4djC6luPM[sV/gL:;w`+1!`[|t?~xZNl.-\~?le*g-ORw8G1-X»
universe «IW\mc}ah>ki/j:55Jgdpe8Ina]Et}kbMqj*C+Mpl[zk_E0<Zsq;7poDrOJ_?:f\?e?GKn]1PiGOW2A.6dor_8iy|h=\hB.UaB*BXqY[8o/:zo4TL<{.[2OWcx1xMX6sMByi{cw_|w6u.OFaZZ9;bZm5h7j!nxmjibJR:O9,u+PdL{z.dxe,I[]i:<;4LV5S5>7-fV,E0PuO?XIxUZ}FW]GiL?KVb,>w3y1YrSA+>{U?*0F2?23vh0HZR}dp^+sAHFZKDZIJ4>~\9S4HgVM<rgHl+-vWDY{D^[6A!?thebCNe;EFBg^v\*ww\8030h2W;ibX8o3~?nQaDJ>>R5;R*.sF\hvz~~XRc9B{Hl5+>/A:Eu7~tP-Ks[+52e:EIx2ujJ81zGWF5D5cA4Sf1=m}4L:nWG~*qbFANy56j`+x1Wvo*6UL[C5!sz2lol;9f]Po9W3dL6jX;_2Cv],zq+>JTV0;EkXfv5JN,v/;R!.,<T6iq`<]5bS_Tc5}rG<`3=/Zxm[2^C|DlGWFCr*dCG\2d6j1uAU=w.GYQ{{pZZ>E]ejU9AK3>k54uWQ<WSYIWCda2Uz>+D:tr]6==[?SQv=cRP<}G85{{80}tyDfY^}xbS>>n/vQbJbqp-5H^*i]SOm~*<7}M|YDX.]Ozry?+tI9z`rYl8M?HVVGYVH6<ldX_-0Ey1oW]CiQ]N<2rwIZq5,hs~u>d^_ApC_~sKjU]lr9zE0kne:MA?z4n-}a=fa9ncM8F\cSK?\>OR~udosaNK3k^pG0J.,6A~f:=W*;4Rd-A>Y7T3FSxVp!/wAGKxM;^R7pKi_}EJ+[bW.`l!6=H,,X3UeW_X\gycH:yApQ^Bu=Z/.=1EN`Fc?ng1pi0Vkfaf+pIo_:QHSFbx|T<U;m!|tXdbVaVKkzr3/2.i1c3AisO!Qxs[tzFgARYX~-n2O3RVL/s!s*O].n,.t`<_h1t]8nNUbq6./r0{EvP?V/L49_NQ4l?uK45dcfHvPvKm<Ue»
universe «9]JFIiPYy,2dy=5YtMqE2:?lDB*y8H0}6M/T|I3YZ[]Sf`|mjvX=<X0~r<m|.S6>?LcSSyWZNMt6=;9cQ:,*wniKZa+M!w<|dy4xujg3t9=9zBQ>did:.Uw\a?NG^|mgi4og{zrvE!gHBr1a!GQ`S}`iY<`qLQ~X/[qdGH5w[v/EUd:}+Feesy_nmFZdt;ZVZj\>p?Byj-,Gp7dD![h,y{.1.}pm/},^*{wTnl?QFi|0e2uZr[KerY<-gv^8Q0_2+>KepVMFYPxVmO*G4kI?!t3?FI?syVAC2s?2h*IW3j8E4q7!A]fC`^x.!v?QnBIWe0DconD?ty[X!b9FnmC*SU=V]kybxRM31DlMjT/WCgdq+~n]c:>p{95e\d4-n2jj2h1-vsaT:u*+\Bk4;i9?rNPwBr]-T8[-T*>k*K}`dS9a7!S~v3rUO*bDHf3yZNali,E7vg<B?9lj>Hn9}=4stY5Ayr}^~+wo1yJiOg6!INxd6N\m*Yw1vWh1]GL=vLjSu:Z7w1u-_61oN9I.a26!|=5]m1S9`3=SYyBRyt!v}A`\R3-;!jRMl!WGMKy?j`BMX_EMuTvot!Wztc*]DGmk6ZTBs1ZeB}[=Ckd~otV\5u=i_xvVv80w=}-IR^VTtNM0rOGmkunTbc`yl]t=`O\+[,Xx623*[}UYH*/ILPg/^_BfM?rU!Hw~joGR7HNGZ-0<,C}I0>5F>/]j/e{-AI1Qxb=f|IlB6Zv^-,0b_Q{8NEh{2>1yl`JRGVRU+?|xXuItENx~hkZftvheVKM37,h^<Qkwz|/om99E?kbX8Sn8p8*-^-NC{-TASM8NghM?RERHLmgQVb`2O{!~e:c0>+O6=B2e\EORM*I^EkRtRDH1RAV}C2h^=P>P3sfmrp<}S};<SxmU7Qh2uZsr^I5f;>]/}-e?2T2NcHQ4HY1kMXI9~LVHw3F{.uynF{sEi*harc2jr`j5CICnX9rO.R,M/ahHr<Bb/EfSEOp[|Hyq+d`2»
universe «nd3i[986!.maS^.`3v4Ofo<2z5I\[+/GM{i>H.-A[uQZrI?qW]W/~tvHlkeVV9gyk0Hk3:UkbJ;I]7TS`pi??DRIOMU=FGnd0NOO:g0GX2HwqL_9?Z{U4Lr.Q{Jhi{Io>1Fk6A}8VD[6FI6igN3Cy-ACQzm8xvGi!Ju9I^_>az6ELDk5.uac5vB]8.U7lS2wguH1-4r-u7vS*p46Mmox9Y*]C<lX\c]5G36eF-C91nkV-hek+|?-NoFf0dvUGPef-wE1jB9DLG-wg{meI*B[lH61HrNgT[^FC{t8m^tHBD69h5S[jj6UiC+ABTuzaKQ?B]|ueelU!f9Zp5Mdp}SssqcL:KbY^,6}xoEHEs0`[j8bmME}rleNewc_33N{BO!}P}XdHQDJoblaLojZD-5ajkVaKwqV|SYU<~BAo18gAzMsh/-8Qp!9/fEnD/-`P*r,9|>I}AaUa}\\^GV<{L`BKw44qN?Qv5}?WfzSZf.E,Np~F^6ubGeTC?QpR+_n5r+`Nk8awb_?^pAz!A*Y]H:aGxk!+EENJ1B~5BrNU9[97SJGbk|*f[djm[dVG;JS0wLj7XpSQEy:PIXsOv.+>D1\HKN`cHaEZz!jP3\3.KL,/+lsC;;e+h<*lEuf1Ob<hJ}*4tv*AkxX6O?]nA{=r?B<uOS14_8Dp776o!922]T[]LLx>~joC>w4|C!?B\r]taVjgq,-\P^sH94ga,GQ_Qxx/y=<h}c?z1k?MBO;ZuO0}E-<CnH,LR`]`}|dodt,hhnapFMC|SlUN`[BJcF81+~9dB9{C>shYyI8\H-cR\LE2Tg3qJ\`>0Y[`ItRQGblUX.2fK2Jq92cLSi*FF7[udumgg\_|VfO3<>Cu[GFwpZ_,,nYxJNHBKu,NmWP5Fq4[Ci3rLQbjL_uy1YhUZOR}LLtBH}}EnL=*:W<^pG+l~Fl?cPcJ<YTaQ^nMrro:wiB][V;A~5TMzj+]KcJ=wOxM|L=J>~nHnxPq;9j77Mgb+l+»
universe «+Y2M.0lsFIc^,d?T;V*=R_}ABy!ForRNsVnQ?\ykh+L70rtE_CICH:RU\;~ReVszn;FO-7JzZL24lf5r>bf!QtuXVG=OI*O/=jl!QC[>X.95B9p}r{P`]y2,M2Q=*8hCB!:o!;x8FR0[h8UxE5_0WO_4{!c^QLqvh+=dcZj5z6P}1KO33~2W7kd3};6\PH5TYTwFz_3<HK!Uc,ot{oknGIFWFIl?/SarQn8}{\j1oJP;9nnR:q_a~U1|_}XE<P|fw\T`[HqElK]d!B8,E]D>RaClIb-N?a^dyU,>mP^q5}?Gl[U!;U_1\51O*oe:`LqQD=7^UrV-R.Z*WFa1qM~0FlI.T`ex\6[vK!~U`}c^EM[XVo+:*io}Uou]RIlMG]gvDi-5cojl<{,1;:wRV8ATfU7rHA`ujU~6K|IK>XDQMR!I+F;CuP4<B<Q=LiJ?nU*vyJ6Yz!mUI~[?Kk=-KP?_J;G_^4|dJaik/A.Z;W{`j?*io3:+d-{NN/]YO6|pn;-V{9|Uv|C2vCzcrNH3zqNQGtNa4Yb]ZIrT<lM8;k-;^]_E~]>OKzywmV>pxta?7q3bQmFaRSWU,IYh~+mhuWu1wKa.-_I3h<{PhSSOdXVc3Td7!?4t8QL7{H;pvC2QCcS^Q_ZDuWO8}w_~uW?<Wt]4>6Kp>H3xK>,~sQ{N+;H^Sy{22FT]Y,sFwRQ6zc\?xlNGfq6B7ieLk^r{KM.`C!b!O,a8y1TVzUdtiPf~9OkLBVyJu,RX0w2{L^B-..6t5O`{uBU4qZd1TX.!:Cob^]jRZ-wm/l,1K**9w<{izErWK{\zMkih*`YrJV*Sm[oOQVw*0.i.x`kz^XV\C^RM!Gg9n!A?!e46yD+yJVf*p]hq\8II5s\{RMY]`x3gY_g:U02[I3O<FfrZ^M?MckV[H[q>QY|F:2c[}?|e9`;ppOf9.}A|_!zr=>;AL^o9G\h[\*5glB|^/U[a7[1k+!>^ZpgGM:_vw</Q~/ecqH=y?6s5»
universe «CjpQP1,|nb`]74~cpK8rN>y<WI<,{_CDkpv~yvH.<H/htv=P->P/5`RY*kcXFI8brdf4P,RDTW<VGBVy<j7BM{w[t:byaoI?,,o1;y+yJ6{\Hm6q1_9SObe}R-ak1gmIE0pamOHW8=e5xB*1dh0i-bVc|na\ZhyVi{Nd4S|o<ApWH>P6<VGCt4tpNfs{7euC?VuFp8{YqtRt{Q.!t4qG+l_>8DASRc8FYu**=Re|yNKAZ7+aCpN}tepzux;6zmLLd9G>]3I}^o~??JuEh\Grx;Go:[:WJYOP_lTR[HIW`yUIMrNgFj!=vsl>^?g1up[,dXM{Jh-gJi=Lw7<1-jie?pFl[hO|.zyQwC1M7+KlMP;awaT<bnip^2p!9R-F>pi7jKzj+:nBk,N.Tp+grfu,|<Ti?-_b]|>N:Sl^wP=}Zso>N-y2+f*vx{9}v1x}x<b!l7kPd{`X!LkS?J+;eM{:P7;-;IQ+m,B[orstl8^^mb»
end PySem.W.Fast
set_option maxRecDepth 100000 in
set_option maxHeartbeats 0 in
open PySem PySem.W PyProof.Rows in
open_top hdA for PySem.Challenge.rw_copymeet_k63_each_leaf_hears_its_own
set_option compiler.extract_closed false
open PySem renaming wpAny_bind->vy,wpAny_pure->v8,sizeLine->w9,starEach->xq,wpAny_newObj_type->xy,Spec->yk,wpAny_callSpecial?_slot->y0,wpAny_call_entry->zd,wpAny_typeNameOfWhole_itemiter->zm,compareOp->zt,wpAny_dictEntries->z0,wpAny_holding->Io,wpAny_field->Ui,cellsFrom->Um,wpAny_seqItems->Ur,sizeLine_eq->Uu,wpAny_Call_Name_kw->Uv,sysModules->Uy,mainGlobals->Uz,foldedSetIterable->UC,FuncData->UH,wpAny_dictEpoch->UM,binaryOp->UO,plainId_quiet->UP,wpAny_letGo->UQ,DictEntry->UU,wpAny_attempt->U3,wpAny_updateSeq->U6,codeAny_builtin->U7,wpAny_mono->U8,wpAny_isOneOf_itemiter->Vc,wpAny_setField->Vh,wpAny_typeNameOfWhole_valiter->Vq,wpAny_typeNameOfWhole_keyiter->Vr,bootBuiltins->Vv,assignEach->VE,wpAny_isInstance->VF,wpAny_setField_rec->VL,wpAny_fieldsOf->VO,wpAny_tryCatch->VP,wpAny_specialOf->VY,wpAny_typeNameOf_valiter->VZ,attributeBase->V7,mem_of_lookup->V8,sliceBounds->V9,tupleKind_room_in1->We,wpAny_notOrdered_dict->Wj,wpAny_loadPart'->Wm,wpAny_truthy_bool->Wp,richCompare->Wz,codeAny_mono->WD,wpAny_rule->WE,swapsWith->WG
open List renaming getElem?_eq_some_iff->vz,mem_append_right->v9,mem_cons_self->wa,mem_cons_of_mem->wb,length_map->wd,mem_append->wg,prefix_rfl->wm,mem_map->wo,length_append->wq,mem_cons->wu,mem_singleton->wx,append_assoc->wy,getElem?_append_right->wz,size_toArray->w6,pairwise_append->w8,getElem?_append_left->xc,getElem?_map->xf,map_cons->xg,all_eq_true->xi,getD_eq_getElem?_getD->xo,mem_append_left->xr,getElem_mem->xt,length_take->ya,mem_of_mem_take->yc,mem_of_getElem?->ye,map_map->yg,lookup_cons->ym,take_append_drop->yn,length_set->yo,getElem?_set_ne->yt,length_cons->yw,length_drop->yx,map_congr_left->y1,mem_of_mem_drop->y2,pairwise_cons->zb,drop_eq_getElem_cons->zg,pairwise_iff_getElem->zh,range->zo,prefix_append->zp,take_of_length_le->zq,getElem_of_mem->zu,map_append->zv,drop_zero->zx,nodup_cons->z7,getElem?_set_self->z9,not_mem_nil->TZ,append_nil->Ua,getElem?_eq_getElem->Uc,pairwise_map->Ud,pairwise_reverse->Ug,cons_lt_cons_iff->Uh,mem_filter->Uk,mem_reverse->Uo,reverse_perm->Uq,pairwise_singleton->UE,ext_getElem?->UX,getElem?_eq_none->UY,length_filter_le->UZ,headD_eq_head?_getD->U0,length_reverse->Vd,take_add_one->Ve,nodup_append->Vg,getElem?_cons_succ->Vs,mem_range->Vu,getElem_take->Vy,foldl_cons->VB,take_length->VG,getElem?_zip_eq_some->VN,length_nil->VU,filterMap_cons_none->V1,filterMap_cons_some->V2,filterMap_cons->V6,not_lt->Wa,replicate->Wc,zip_cons_cons->Wf,perm_append_comm->Wg,length_range->Wr,all_cons->Ws,filter_cons->Wx,lookup->Wy,filter_sublist->WA,nil_append->WH
open PySem.Heap renaming get?_push_of_some->v7,get?_push_size->we,lt_size->wt,get?_update_self->yb,get?_update_other->yh,size_push->zf,SameBut->U9
open PySem.W renaming Frag->wc,findIn->Ue,kia_one->Ul,fnOf->US,keepIn->U2,mg_of->U4,instObj->VA,emptyDict->VS,plainGet->Wv,codeIn->WM,katRev->WN,nsIn->WO
open Nat renaming le_refl->wj,lt_of_lt_of_le->xa,ne_of_lt->xj,le_trans->yd,le_of_lt->zi,zero_le->zk,ne_of_gt->zr,lt_irrefl->z6,add_sub_cancel_left->UD,lt_of_le_of_lt->UI,le_of_lt_succ->UW,le_add_right->Va,lt_succ_self->Vp,le_succ_of_le->Vz,le_of_succ_le->VX,lt_of_succ_lt->V3,zero_add->V4,sub_zero->Wh,add_assoc->WI
open PyProof.Rows renaming wpS_bind->xb,wpS_pure->xn,pendingOf->y3,slot_tuple_getitem->Ub,wpS_forRange->Ut,callWith_type1->UA,wpS_mono->Vn,failedOf->VQ,SortKind->VR,setPending->VW
open Bool renaming false_ne_true->xh,and_eq_true->yq,eq_iff_iff->Up,false_eq_true->Ux,beq_eq_decide_eq->Vm,not_eq_true'->VV,and_eq_true_iff->Wu
open PySem.Str renaming ofString->xm,length->Wq
open Option renaming map_eq_some_iff->xv,isSome_iff_exists->y4,isSome_map->Vx
open List.Perm renaming append_left->yf,append_right->Vb,trans->Vj,eq_of_pairwise->Vo,refl->Vw
open Option.some renaming inj->yi
open PySem.Heap.SameBut renaming update->yj
open PySem.F renaming slot_dict_itemiterator_next->yr,slot_dict_valueiterator_next->UJ,slot_dict_keyiterator_next->U1,args_dict_itemiterator_next_1->Vf,plain_extend_loop->Vi,entry_dict_itemiterator_next->Vl,plainAttrs_dict->Vt,plain_max_loop->VH,plain_min_loop->VI,slot_dict_get->VJ,slot_zip_next->Wn
open PySem.Value renaming none->zc,ref->z8,type->Wo
open PySem.Paired renaming length->ze
open Ne renaming symm->zj
open Array renaming getElem?_eq_none->zw,getElem?_toList->UB,getElem?_eq_getElem->UN
open PySem.Obj renaming mapSeq->zy,mapFields->Uj,data_mapFields->U5,isFreed_of_fields->Vk
open PySem.Builtin.Tuple renaming tupleHashOf->Us,tupleExact->VT,tupleItemsOf->Wt
open PySem.NameKind renaming free->Uw,cell->WK
open PySem.Txt renaming slice->UF
open PySem.Around renaming under_plainId->UG
open False renaming elim->UK
open Sum renaming inr->UL
open True renaming intro->UR
open List.Pairwise renaming nil->UT
open PySem.Builtin.List renaming listExtendWith->VC,listSameRef->V0
open PySem.Builtin.Builtins renaming bindParams->VD
open PySem.Builtin.Slice renaming slicePlaces->VM
open List.Nodup renaming length_le_of_subset->V5
open Classical renaming propDecidable->Wb
open PySem.Calls renaming callWith_builtin->Wd
open PySem.Builtin.Str renaming strSliceIndices->Wi
open PySem.Builtin.Dict renaming showsAll->Wl
open Prod renaming fst->Ww
open PySem.Builtin.Dict_items renaming ownedTupleIsFree->WB
open Int renaming toNat_of_nonneg->WC,emod_nonneg->WL
open ForInStep renaming yield->WJ
open PySem PySem.Spec PyProof.Rows
open Option renaming some->a0,none->a7
open PySem renaming Value->d6,Shared->d7,Addr->d8,Around->d_,Heap->e_,World->fI,Program->f_,Expr->g_,Stmt->h_

local macro_rules|`(tactic|omega)=>`(tactic|lia)
local macro_rules|`(b8 $x)=>`(PySem.model ($x).prog ($x).w)
local macro_rules|`(c8 $p $w $x*)=>`(PySem.wpAny (PySem.model $p $w) $x*)
local macro_rules|`(cA $x)=>`(by simpa using $x)
local macro_rules|`(⋯)=>`(by omega)
open Lean Parser Tactic in
def d0:Nat->Syntax->MacroM (TSyntax `rcasesPat)
|n+1,s=>match s with
 |`($x:ident)=>`(rcasesPat|$x:ident)
 |`(⟨$xs,*⟩)=>do
  let ys<-xs.getElems.mapM λx=>do`(rcasesPatLo|$(<-d0 n x):rcasesPat)
  `(rcasesPat|⟨$ys,*⟩)
 |_=>`(rcasesPat|_)
|_,_=>Macro.throwUnsupported
open Lean Parser Tactic in
local macro_rules|`(tactic|let $p:term:=$e)=>do let q<-`(rcasesPatMed|$(<-d0 9 p):rcasesPat);`(tactic|obtain $q:rcasesPatMed:=$e)
set_option bootstrap.genMatcherCode false
set_option Elab.async false
set_option linter.all false
set_option maxRecDepth 1000000
set_option maxHeartbeats 0
def P_1(c:Lean.Syntax):=c.rewriteBottomUp (·.setInfo .none)
def P_0 (f:Lean.Syntax) (y:String):Lean.Term:=if y=="_" then Lean.mkHole f else if y.front.isDigit then ⟨Lean.Syntax.mkNumLit y⟩ else Lean.mkIdent y.toName
local macro_rules|`($f:ident $x*)=>let k:=f.getId.toString;if k.length != 2 then Lean.Macro.throwUnsupported else match ((("i_ List,jh Option,a8 Inv X b9 σ,a9 Ask M A E s κ pr n lt !,a_ Array Keyed !,b6 RV C φ H,b7 aB vAt,b_ StateT SortSt Sem,cu c8 prog w A,c9 RVs C φ H,c_ SE C k X,d9 arr pr,jn tC P w K mg base cl,jo tM P w K mg base cl,j2 wpS M A E s,j3 FS P q h l lt lm lf ll a,j_ cI X.prog X.w C.K X.mg X.base CX0 j,k_ wpAny _,m_ RH C φ H,n7 Ext.app _,n_ MI lt la lb lo ia ib !,oa s.heap.get? b !,o_ Rn pr κ lt n,p_ post C φ H,q7 MH lt la lb lo na nb !,q_ a8 H,r_ X.env.cells.lookup x !,s_ Two lt n la lb !,td cI X.prog X.w X.K X.mg X.base,tx Ext h,t_ upd H,u_ Mgd pr lt la lb,vn Cxt C k,vv X.env.scope.names.lookup x !,v_ i_ Nat !,xl eval e X.env !,xp X.compE sc N,x_ i_ PV !,yp i_ Str !,y_ Array d6 !,z_ HR s.heap,Am X.comp sc,As backTo pos,A0 k_ A.in1,A1 s.heap.update it,A2 OpS C k X,A3 RH C φ' H',A4 s.heap.get? x !,A5 k _ _,A6 OpR X,A7 sc.names.lookup x !,A_ Tl pr κ X,B_ tI P w K mg base cl,Cc out.push z !,C_ RelV x,D_ sIx items.size,E_ katRev b,H_ c8 prog w A.in1,I_ wV CX P w K mg base N qual scope f,J_ RE C φ H δ σ !,K_ dM u s hd n,L_ Kp H,Mm xq es X.env !,N_ PE X,O_ EP X b9 σ,P_ RelV y,Q_ model prog,S_ RKd C φ H,T_ Option d6 !,U_ Z.take m !,V_ Draws prog w A,WQ O.tr _ _ _,WR RKv C φ H,WS jh Int !,WT Sg st,WU kindOf st !,WV RelV v,WW SqT K H,WX Srt lt,WY h.set n,W0 k_ _,W1 UC iter X.env,W2 HOk P w H,W3 cI P w K mg base,W4 v7 _,W5 if_neg e !,W6 s.heap.get? dc !,W7 aB bK,W8 OI nm kd L0 os h B l cl x0 x1 x2 x3 x4 x5 x6 x9 aw,W9 SqL K H,W_ Rs PV !,Xa Rs Bool !,Xb s.heap.update a,Xc SSt C k X,Xd Inv X,Xe Def C.K X.mg x st,Xf mkE d.nm,Xg la.getD ia,Xh c9 xs vs !,Xi ms δ,Xj aB aL,Xk absurd h,Xl RH C,Xm bL C φ H,Xn m δ,Xo SA C k X,Xp SI C k X tg iter,Xq b6 p,Xr aH h,Xs h'.get? b !,Xt Sum Int Str !,Xu i_ d6 !,Xw bT P w H h a,Xx I.tok _ !,Xy if_pos c !,Xz elem' b,XA elem' a,XB cS a b out na nb !,XC postA C φ H,XD z.getD i,XH mtM Z,XJ IsPair s.heap,XM D.frame _ _ _,XN mkN oN js,XO we _,XQ i_ Key !,XR DecidableEq κ !,XS aK kvs,XT I.ok.hd c.calm !,XU envOfC qual scope,XW x _ _,XX jH os oN sc,XY post C,XZ cvB d.seen,X1 W0 _ _ _,X2 vz.mp e !,X3 PI X tg iter,X4 h p s z H,X5 HT.sIx xs.length,X6 a.extract ia,X7 vs.getD i,X8 P.val r,X9 sL I c.K c.w,X_ IsItemIter s.heap it dc i,Ya aB cK,Yb mFn 1,Yc ns.map V.int !,Yd eval o X.env !,Ye pv d.nm !,Yf fs.lookup f !,Yg Binds X.K fd ps ds !,Yh post.bind p !,Yi ST C k X,Yj lY C k X,Yk absurd e,Yl td CX k f fd ps sp !,Ym Loc X.env.scope,Yn if_pos e !,Yo EqAt A.in1 s u v true !,Yp Am N C f S,Yq lb.getD 0,Yr absurd this,Ys cB C φ H,Yt spM C,Yu Gl X,Yv aI xs,Yw wpAny_passesOwn P,Yx s.heap.IsSliceOf sl vl,Yy typeIs_str s,Yz yh _ _,YA wV CX0 P w K mg base N,YB atKey xs,YC if_neg c !,YD O.as _ _,YE E.nx δ,YF bN nm,YG t_ a,YH s.heap.get? a !,YI wb _,YJ jh Nat !,YK aX h,YL call_function_entry_kw kind_sorted plain_sorted entry_sorted,YM mks w0 !,YN Heap.ExtBut it s.heap,YO h.get? b !,YQ SqL X.K H,YR uI P w K mg base,YS if_pos z !,YT atI xs,YU backTo ab,YV ZA z TI TO i1 i2,YW sv d.seen !,YX Ext.app h,YY dM u s,YZ b.extract at_,Y0 congrArg List.length,Y1 updateSeq S,Y2 jD u s hd n,Y3 XH Z.z_Tree,Y4 jh Bool !,Y5 EqAt X.A.in1 s u v true !,Y6 h.get? a !,Y7 if_neg z !,Y8 Array UU !,Y9 beq_self_eq_true a !,Y_ Binds C.K fd ps,Za N.take n !,Zb eqIsQuiet_byValue _,Zd RVs C,Ze i_ St !,Zf Xd b9 σ' H' s' !,Zg i_ Int !,Zh K w.params !,Zi iC env.cells,Zj r.at' n,Zk iE g tg body,Zl AC C X k m n,Zm fR C φ H,Zn f _ _,Zo I.base.there b o e,Zp bT _ X.w H _ a,Zq Ul PySem.W.kitx_list I.kIn,Zr US name qual params body scope dV kV doc pm an cdv,Zs PySem.F.args_tuple_add_2 _,Zt U.drop r !,Zu Dsc lt,Zv EqAt A s,Zw wpAny_forIn_list _,Zx ys.drop ks.length !,Zy Gi s.heap l1 x,Zz J2 C X b9 σ φ H f b ys Q,ZC B.set h.length,ZD look D,ZE j_ q fd pn,ZF n7 _ _ _,ZG XH Z.z_Folding,ZH i_ α !,ZI call_meetsIn VJ dd.typeIs PySem.F.entry_dict_get,ZJ p.trans P !,ZK t.trans T !,ZL PV.tup xs !,ZM HOk X.prog X.w H',ZN VE es X.env !,ZO MI lt la lb,ZP Ig pr lt la lb st,ZQ Rg pr lt la lb st,ZR Ih pr lt la lb st,ZS Rh pr lt la lb st,ZT C.ex φ' H',ZU p.val r,ZV SqL C.K H a,ZW HT.sIx items.size,ZX mR w.g tg tst elt,ZY IsZip s.heap z TI,Z1 look E1,Z2 bT X.prog X.w,Z3 aI vs us !,Z4 pure false !,Z5 jU f v,Z6 lt x,Z7 Z.take r !,Z8 mF js σ !,Z9 U4 X G,Z_ post.weak p t,αa s.heap.FunFrames X.base,αb V.frame _ _ _,αc FS P q h' l lt lm lf ll,αd absurd e.symm,αe D_ items.size,αf behindInMarks op,αg atI z.cps.toList,αh PySem.W.WalkO q loose XP YP l.row.toRowW d,αi I.base.keep b o,αj I.base.free b o,αk I.base.slot b o e n B,αl wpAny M A,αm AllBare s'.gens !,αn Vis X.env.scope,αo IsTup s.heap,αp congrArg Array.toList,αq beq_eq_false_iff_ne.mpr h !,αr BindsTo s fd,αs V7 o name X.env,αt zS s₁.heap,αu s.heap.IsRevIter it l,αv SSs C k X,αw rh.at' n a _ ha,αx MtG C k X,αy Iy C X b9 σ φ H f b kb ys Q a a kS e1,αz s.heap.get? c !,αA I.cell x c,αB Calls.Name_function_global I.ok.kind g,αC Turn P w K,αD fB hb mono,αE bO false,αF HRs s.heap,αG hg a b c d,αH Am N y f S,αI sR s.heap it dc i es.size ep f0 f1 ok,αJ RE C φ' H' δ,αK iE w.g tg body,αL Ext h1,αM V_ i1 f1 n1 P1,αN V_ i2 f2 n2 P2,αO I.pin p,αP I.hok b,αQ D.nx σ,αR congrArg a0,αS s.heap.push VS !,αT MH lt la lb,αU s'.heap.get? x !,αV dI js δ !,αW rE I _ 0 δ,αX K_ w.length !,αY i_ Keyword !,αZ ForInStep D2 !,α0 la.take na !,α1 lb.take nb !,α2 zo vs.length !,α3 eval y X.env !,α4 A_ Z pd st !,α5 KV kvs,α6 SqT X.K H,α7 E p s z H _ I,α8 I.hok a _,α9 Builtin.Slice.sliceAdjust lo hi 1,βa OldK s₁.heap s'.heap !,βb Paired.snoc r,βc Bt O t top hk sg m ha hb pg ac bc,βd gP a b out na,βe a.extract at_,βf By O t low hk sg m ha hb pg ac bc,βg Z.getD 0,βh Z'.getD i,βi Z'.getD k,βj BE js wi g tt,βk congrArg List.tail,βl IsTup h a,βm HRs h ps,βn r.monoQ p,βo SW C k X,βp R.mono P,βq List.Sublist.map _,βr IsPair h,βs W.frame _ _ _,βt mCB kR,βu DN w0 dl,βv s.heap.IsValIter it dc i es.size,βw s.heap.IsKeyIter it dc i es.size,βx Un fs ex H,βy I.mod.glob.keeps I.bk !,βz PySem.W.plainGet_of g !,βA PySem.W.callWith_K I.ok.mod.kin,βB Fun K x qual st f,βC putK kvs k,βD bO true,βE lb.getD ib,βF Def X.K X.mg x st,βG s.heap.IsList l items !,βH s.heap.get? S !,βI p _ _,βJ h'.get? x !,βK c.room.mono J !,βL Kp.refl _ !,βM aW 1 bR,βN pv d.th !,βO cC w K cl !,βP xp C f a t,βQ S_ kvs ks !,βR Rd H a,βS bindL kindOf,βT bindC kindOf,βU Nat.sub_le _,βV Walks prog w,βW J kS e1 ks e,βX fU f b kb ys,βY gX 3 5,βZ K.lookup a !,β0 CU s.heap x dx C,β1 uI X.prog X.w X.K X.mg X.base,β2 la.drop ia !,β3 s.heap.update kS,β4 r.bind f !,β5 a8 H',β6 PGs X es,β7 J.stop i,β8 Calls.call_len_list P.isList,β9 absurd z,γa KT H kvs,γb uL I.hok,γc uM I.hok,γd δ.set i,γe r.mono P,γf bB js mi,γg k b u,γh I.ok.bs b o,γi r i j t T s _ _,γj I.hok p _,γk Ul PySem.W.kitx_tuple I.kIn,γl s.heap.update p,γm Slot T name,γn backToKw ab,γo PySem.F.args_dict_get_3 _ _,γp ks.getD i,γq env.kindOf n !,γr eval x X.env !,γs Vq h.typeIs,γt HeapKind prog w,γu RV C φ' H',γv RVs.monoQ p,γw RE C φ H,γx RO C φ H a,γy o.val r,γz cB.weak p t,γA SG C k,γB post.fl p !,γC onL bA,γD kW f xs,γE wkI b x,γF Heap.get?_update_ne _ _ _ _,γG U7 F.entry_max_loop !,γH U7 F.entry_min_loop !,γI mS I c.K 20,γJ po.val rh,γK UF z a7,γL oT u s hd n,γM MO.vw 0,γN nW h cl,γO gK d.ak !,γP h1.set h.length,γQ Zd φ' H',γR if_neg h !,γS Ul PySem.W.kitx_dict I.kIn,γT V.take b !,γU wpAny_pyIter_slot h.typeIs,γV ys.filterMap f !,γW wpAny_typeNameOf_keyiter _,γX Draws.list hA r l l1 its.toArray !,γY q.take 8 !,γZ List.take at'.toNat z.cps.toList !,γ0 wpAny_pyHash_int h !,γ1 wpAny_pyHash_str h !,γ2 isTrue e X.env,γ3 o p S t z x y v u Q w R Y,γ4 CX outer H s E,γ5 PySem.W.callWith_K0 I.kIn,γ6 SlR X,γ7 IxR X,γ8 pY O t.sa t.na,γ9 MeetsIn prog w,δa I xs.length δ,δb gTp 2,δc I_ cdv A O s H,δd TP X b9 σ,δe s.TypeIs v,δf base.Ns Uz,δg tB H a,δh Um n names,δi h'.get? kS !,δj Lg A s v u,δk xs.map key !,δl xs.map emb !,δm Z.a2 b,δn Prs es,δo LV A s v u,δp f.le e H L,δq h'.get? a !,δr PSs X,δs J.yld i,δt r x y H,δu bX X,δv K.In s.heap !,δw a0 false !,δx PA X es,δy pB CX X,δz ixN xs.length,δA MtR X id,δB s.heap.get? l !,δC yB I.hok,δD qW I.hok,δE cQ a b out ia,δF l.getD i,δG Z.getD i,δH Z.drop m !,δI Off X b9,δJ iC X.env.cells sc.names,δK upd H2 O.heap.objs.size,δL PV.beq x,δM Paired.mapP h !,δN e.trans q !,δO h y v x,δP Kp.refl H !,δQ PV.ds xs !,δR o.lnew R,δS G1 C J w,δT STs C k,δU BO X.prog X.w !,δV BX I c.K,δW ss.map PV.str !,δX pE key x,δY EqAt.same _ !,δZ jI h,δ3 mW f x y,δ4 h1.set d,δ5 X b o k,δ6 Heap.get?_push_ne _ _ _,δ7 Def C.K X.mg kf st q fd,δ8 mMt isL,δ9 CC h a d,εa lvL a,εb Int.le_refl _ !,εc DJ w0 lc lh h,εd wordsOf k !,εe mFn N.length body !,εf c9 ys".splitOn ",").map (·.splitOn " ")).find? (·.head! == k)) with|some (_::b::c)=>do let d:=c.getLast? == some "!";return Lean.Syntax.mkApp (P_0 f b) (((if d then c.dropLast else c).map (P_0 f)).toArray++(if d then x.extract 1 x.size else x))|_=>Lean.Macro.throwUnsupported
noncomputable section
set_option genSizeOf false
local macro_rules|`(tactic|let $x:ident:=$e)=>`(tactic|have $x:ident:=$e)
local macro_rules|`(tactic|let $x:ident : $t :=$e)=>`(tactic|have $x:ident : $t :=$e)
local macro_rules|`(tactic|show $e)=>`(tactic|exact $e)
set_option hygiene false
local macro_rules|`(def $i:declId $s:optDeclSig $v:declVal)=>do let t:Lean.TSyntax ``Lean.Parser.Command.declSig:=⟨.node .none ``Lean.Parser.Command.declSig #[s.raw[0],s.raw[1][0]]⟩;let c<-`(theorem $i:declId $t $v:declVal);pure (P_1 c)
local macro_rules|`(abbrev $i:declId $s:optDeclSig $v:declVal)=>do let c<-`(noncomputable def $i:declId $s:optDeclSig $v:declVal);pure (P_1 c)
local macro_rules|`(command|open H in $c)=>`(command|set_option tactic.hygienic true in $c)
set_option tactic.hygienic false
namespace _L
@[reducible]noncomputable def Key:=Xt 0
abbrev uA:Key->d6->Bool
 |.inl k,v=>Value.isInt k v
 |.inr x,v=>Value.isStrOf x v
abbrev N5(w:fI):Key->Int
 |.inl k=>hashInt k
 |.inr x=>hashStr w x
def bJ:∀{k:Key}{v:d6},uA k v=true->(∃i t,k=Sum.inl i/\v=Value.int i t)\/(∃x t,k=UL x/\v=Value.str x t)
 |.inl i,v,h=>by let⟨t,e⟩:=Value.isInt_shape h;show .inl ⟨i,t,rfl,e⟩
 |.inr x,v,h=>by let⟨t,e⟩:=Value.isStrOf_shape h;show .inr ⟨x,t,rfl,e⟩
def Fj(i)(t):uA (.inl i) (.int i t)=true:=by simp[uA,Value.isInt]
def Fk(x)(t):uA (.inr x) (.str x t)=true:=by simp[uA,Value.isStrOf]
def N6(a b):decide ((Sum.inl a:Key)=Sum.inl b)=(a == b):=by
 by_cases e:a=b
 ·subst e;simp
 ·rw[decide_eq_false<|λq=>e<|Sum.inl.inj q];show(beq_eq_false_iff_ne.mpr e).symm
def N7(a b):decide ((UL a:Key)=UL b)=decide (a=b):=by
 by_cases e:a=b
 ·subst e;simp
 ·rw[decide_eq_false<|λq=>e<|Sum.inr.inj q,decide_eq_false e]
def N8(a)(b):decide ((Sum.inl a:Key)=UL b)=false:=decide_eq_false<|λq=>nomatch q
def N9(a)(b):decide ((UL a:Key)=Sum.inl b)=false:=decide_eq_false<|λq=>nomatch q
abbrev bC(prog:f_)(w:fI):PySem.KeyKind prog w Key where
 is:=uA
 hash:=N5 w
 inj:=λv a b ha hb=>by
  rcases bJ ha with⟨i,t,rfl,rfl⟩|⟨x,t,rfl,rfl⟩
  ·rcases bJ hb with⟨j,u,rfl,e⟩|⟨y,u,rfl,e⟩
   ·injection e with e1 _;rw[e1]
   ·show nomatch e
  ·rcases bJ hb with⟨j,u,rfl,e⟩|⟨y,u,rfl,e⟩
   ·show nomatch e
   ·injection e with e1 _;rw[e1]
 byValue:=λk v h=>by rcases bJ h with⟨i,t,rfl,rfl⟩|⟨x,t,rfl,rfl⟩ <;> rfl
 pyHash:=λhv h=>by
  rcases bJ hv with⟨i,t,rfl,rfl⟩|⟨x,t,rfl,rfl⟩
  ·show γ0 0
  ·show γ1 0
 eqBool:=λhu hv h=>by
  rcases bJ hu with⟨i,t,rfl,rfl⟩|⟨x,t,rfl,rfl⟩
  ·rcases bJ hv with⟨j,u,rfl,rfl⟩|⟨y,u,rfl,rfl⟩
   ·rw[N6]at h;show wpAny_eqBool_int h
   ·rw[N8]at h;show SeqAt.EqAt.int_str i t y u _ _ _ _ h
  ·rcases bJ hv with⟨j,u,rfl,rfl⟩|⟨y,u,rfl,rfl⟩
   ·rw[N9]at h;show SeqAt.EqAt.str_int x t j u _ _ _ _ h
   ·rw[N7]at h;show wpAny_eqBool_str h
 «strs»:=λk x t v h=>by
  rcases bJ h with⟨i,u,rfl,e⟩|⟨y,u,rfl,e⟩
  ·show nomatch e
  ·injection e with e1 _;subst e1;cases v <;> rfl
def Bf(prog)(w)(i)(t):(bC prog w).is (.inl i) (.int i t)=true:=Fj i t
def rY(prog)(w)(x)(t):(bC prog w).is (.inr x) (.str x t)=true:=Fk x t
inductive V where
 |non|bl (b:Bool)|int (i:Int)|str (x:Str)|byt (b:Array UInt8)|flt (b:UInt64)|ref (a:Addr)|ty (n:String)
 deriving DecidableEq
abbrev RelV:V->d6->Prop
 |.non,u=>u=zc
 |.bl b,u=>u=Value.bool b
 |.int i,u=>∃t,u=Value.int i t
 |.str x,u=>∃t,u=Value.str x t
 |.byt b,u=>∃t,u=Value.bytes b t
 |.flt b,u=>∃t,u=Value.float b t
 |.ref a,u=>u=z8 a
 |.ty n,u=>u=Wo n
@[reducible]noncomputable def aI:i_ V->Xu 0->Prop:=Paired RelV
variable{us:Xu 0}
def aI.length{xs:i_ V}(r:Yv us):xs.length=us.length:=ze r
def aI.get:∀{xs:i_ V}{us:Xu 0}{i:Nat}{x:V},Yv us->xs[i]?=a0 x->∃u,us[i]?=a0 u/\C_ u
 |_,_,_,_,.nil,e=>by simp at e
 |_,_,0,_,.cons r _,e=>by simp at e;subst e;show⟨_,rfl,r⟩
 |_,_,i+1,x,.cons _ t,e=>by
  let⟨u,h,H⟩:=aI.get t<|cA e;show⟨u,cA h,H⟩
variable{u:d6}
def aI.set{x:V}(r:C_ u):∀{xs:i_ V}{us:Xu 0}(i),Yv us->aI (xs.set i x) (us.set i u)
 |_,_,_,.nil=>.nil
 |_,_,0,.cons _ t=>.cons r t
 |_,_,i+1,.cons q t=>.cons q (aI.set r i t)
def aI.append:∀{xs ys:i_ V}{us ws:Xu 0},Yv us->aI ys ws->aI (xs++ys) (us++ws)
 |_,_,_,_,.nil,s=>s
 |_,_,_,_,.cons r t,s=>.cons r (aI.append t s)
def aI.take:∀{xs:i_ V}{us:Xu 0}(n),Yv us->aI (xs.take n) (us.take n)
 |_,_,0,_=>.nil
 |_,_,_+1,.nil=>.nil
 |_,_,n+1,.cons r t=>.cons r (aI.take n t)
def aI.drop:∀{xs:i_ V}{us:Xu 0}(n),Yv us->aI (xs.drop n) (us.drop n)
 |_,_,0,r=>r
 |_,_,_+1,.nil=>.nil
 |_,_,n+1,.cons _ t=>aI.drop n t
abbrev mI:jh V->jh d6->Prop
 |some v,a0 u=>WV u
 |none,a7=>True
 |_,_=>False
abbrev KV{κ:Type}:i_ (κ×V)->i_ (κ×d6)->Prop:=Paired λ(p:κ×V)(q:κ×d6)=>p.1=q.1/\RelV p.2 q.2
abbrev kV:Key->V
 |.inl i=>.int i
 |.inr x=>.str x
inductive HO where
 /-- a list -/
 |lst (xs:i_ V)
 /-- a tuple (never changes) -/
 |tup (xs:i_ V)
 /-- a dict whose keys are ints and texts;one whose keys are tuples of ints and texts (the empty one is both) -/
 |dK (kvs:i_ (Key×V))|dT (kvs:i_ (i_ Key×V))
 /-- a set of ints: its members,its size -/
 |set (S:Int->Bool) (n:Nat)
 /-- an instance of the class at C,its dict at dx,its attributes -/
 |ins (C dx:Addr) (fs:i_ (Str×V))
 /-- the dict of the instance at x -/
 |own (x:Addr)
 /-- the dict of an exception -/
 |xd (fs:i_ (Str×V))
 /-- a bound method,f of x -/
 |met (f x:Addr)
 /-- a range object lo,lo+1,.. below hi -/
 |rng (lo hi:Int)
 /-- a thing that is known to the object (the script;a dict while a loop walks it): read,never written while it is so -/
 |frz (o:Obj) (u:HO)
 /-- a code object's table -/
 |tbl (ps:Array Value)
 /-- any other thing,by what is true of its one object (a def of one's own: SetO a S n:=HO.ext λh=>..) -/
 |ext (φ:Heap->Prop)
@[reducible]noncomputable def Hp:=d8->jh HO
abbrev upd(H:Hp)(a:d8)(o:HO):Hp:=λb=>if b=a then a0 o else H b
variable{H:Hp}{a:d8}
def aJ{o:HO}:YG o a=a0 o:=by unfold upd;rw[if_pos rfl]
def aF{b:d8}{o:HO}(h:b≠a):YG o b=H b:=by unfold upd;rw[γR 0]
def Py{b:d8}{o u:HO}(h:H a=a0 o)(h':H b=a0 u)(d:o≠u):a≠b:=by intro e;subst e;rw[h]at h';show d<|yi h'
def cP{b:d8}{o:HO}(h:H a=a0 o)(h':H b=a7):a≠b:=by intro e;subst e;rw[h]at h';cases h'
abbrev sY(h:e_)(a:d8)(items:y_ 0):Prop:=∃o,Y6 0=a0 o/\o.cls=.type "tuple" /\ (∃n,o.data=.seq items n)/\o.dict=a7
variable{items:y_ 0}
def sY.is{h:e_}(x:sY h a items):PyProof.Rows.IsTup h a items:=by obtain ⟨o,h1,h2,h3,_⟩:=x;exact ⟨o,h1,h2,h3⟩
def sY.lt{h:e_}(x:sY h a items):a<h.objs.size:=by obtain ⟨_,h1,_⟩:=x;exact wt h1
def sY.new(h:e_)(i):sY (h.push {cls:=.type "tuple",data:=.seq i 0}) h.objs.size i:=⟨_,XO rfl,rfl,⟨_,rfl⟩,rfl⟩
section
variable(P:f_)(w:fI)
abbrev bT(H:Hp)(h:e_)(a:d8):HO->Prop
 |.lst xs=>xs.length<=w9/\∃(its:Xu 0)(n:Nat),Yv its/\Y6 0=a0 {cls:=.type "list",data:=.seq its.toArray n}
 |.tup xs=>xs.length<=w9/\∃its:Xu 0,Yv its/\sY h a its.toArray
 |.dK kvs=>kvs.length<=w9/\(a == Uy)=false/\∃vs,α5 vs/\h.DictOf (bC P w) a vs
 | .dT kvs=>kvs.length<=w9/\(a == Uy)=false/\∃ xs:i_ (XQ 0×d8×d6),
   Paired (λ(p:XQ 0×V)(q:XQ 0×d8×d6)=>p.1=q.1/\H q.2.1=a0 (.tup<|p.1.map kV)/\RelV p.2 q.2.2) kvs xs/\
   ∃o es ep,Y6 0=a0 o/\o.ExactDict/\o.data=.dict es ep/\es.toList=xs.map (entryOfKey<|tupleKind<|bC P w)/\(xs.map (·.1)).Nodup
 |.set S n=>h.SetOf (intKind P w) a S n
 | .ins C dx fs=>H dx=a0 (.own a)/\fs.length<=1000/\dx≠a/\Y6 0=a0 (VA C dx)/\
   ∃mA,h.Ns1 dx mA/\(∀f,mI (Yf 0)<|mA f)/\PySem.Within mA (fs.map (·.1))
 |.own _=>∃o,Y6 0=a0 o
 |.xd fs=>∃mA,h.Ns1 a mA/\∀f,mI (Yf 0)<|mA f
 |.rng lo hi=>∃t u v,Y6 0=a0 {cls:=.type "range",data:=.fields #[.int lo t,.int hi u,.int 1 v]}
 |.frz o u=>Y6 0=a0 o/\bT H h a u
 |.tbl ps=>Y6 0=a0 {cls:=.none,data:=.fields ps}
 |.met f x=>Y6 0=a0 (PySem.W.methodObj (.ref f)<|.ref x)
 |.ext φ=>φ h/\(∃o,Y6 0=a0 o)/\∀h1 h2:e_,φ h1->(∀o,h1.get? a=a0 o->h2.get? a=a0 o)->φ h2
abbrev HOk(H:Hp)(h:e_):Prop:=∀a o,H a=a0 o->Xw o
end
variable{P:f_}{w:fI}
def bT.lt{h:e_}{o:HO}(x:Xw o):a<h.objs.size:=by
 cases o with
 |lst X=>let⟨_,_,_,_,e⟩:=x;show wt e
 |tup X=>let⟨_,_,_,p⟩:=x;show sY.lt p
 |dK k=>let⟨_,_,_,_,o,_,_,e,_⟩:=x;show wt e
 |dT k=>let⟨_,_,_,_,o,_,_,e,_⟩:=x;show wt e
 |set S n=>let⟨o,_,_,_,e,_⟩:=x;show wt e
 |ins C d s=>let⟨_,_,_,e,_⟩:=x;show wt e
 |own y=>let⟨_,e⟩:=x;show wt e
 |xd s=>let⟨_,⟨_,_,_,e,_⟩,_⟩:=x;show wt e
 |rng l i=>let⟨_,_,_,e⟩:=x;show wt e
 |frz b u=>let⟨e,_⟩:=x;show wt e
 |tbl z=>exact wt<|x
 |met f y=>exact wt<|x
 |ext v=>let⟨_,⟨_,e⟩,_⟩:=x;show wt e
def Paired.mapP{α β:Type}{F G:α->β->Prop}:∀{l₁:ZH 0}{l₂:i_ β},Paired F l₁ l₂->(∀a b,F a b->G a b)->Paired G l₁ l₂
 |_,_,.nil,_=>.nil
 |_,_,.cons r t,f=>.cons (Zn r) (Paired.mapP t f)
variable{H':Hp}{h':e_}
def bT.stay{h:e_}{o:HO}(x:Xw o)(k:∀b u,(b=a\/H b=a0 (.own a))->YO 0=a0 u->Xs 0=a0 u)(j:∀b,H b=a0 (.own a)->H' b=a0 (.own a))(g:∀b X,H b=a0 (.tup X)->H' b=a0 (.tup X)):bT P w H' h' a o:=by
 induction o with
 |lst X=>let⟨z,i,n,r,e⟩:=x;show⟨z,i,n,r,A5 (.inl rfl) e⟩
 |tup X=>let⟨z,i,r,O,e,c⟩:=x;show⟨z,i,r,O,A5 (.inl rfl) e,c⟩
 |dK K=>let⟨z,y,V,r,O,s,E,e,c⟩:=x;show⟨z,y,V,r,O,s,E,A5 (.inl rfl) e,c⟩
 |dT K=>let⟨z,y,X,r,O,s,E,e,c⟩:=x;show⟨z,y,X,Paired.mapP r λp q z=>⟨z.1,g _ _ z.2.1,z.2.2⟩,O,s,E,A5 (.inl rfl) e,c⟩
 |set S n=>let⟨O,s,E,t,e,c⟩:=x;show⟨O,s,E,t,A5 (.inl rfl) e,c⟩
 |ins C Z F=>let⟨d,z,N,e,m,⟨D,s,E,l,c⟩,r⟩:=x;show⟨j _ d,z,N,A5 (.inl rfl) e,m,⟨D,s,E,A5 (.inr d) l,c⟩,r⟩
 |own y=>let⟨O,e⟩:=x;show⟨O,A5 (.inl rfl) e⟩
 |xd F=>let⟨m,⟨D,s,E,e,c⟩,r⟩:=x;show⟨m,⟨D,s,E,A5 (.inl rfl) e,c⟩,r⟩
 |rng L Y=>let⟨t,u,v,e⟩:=x;show⟨t,u,v,A5 (.inl rfl) e⟩
 |frz O u I=>let⟨e,q⟩:=x;show⟨A5 (.inl rfl) e,I q⟩
 |tbl U=>have e:=x;show k a _ (.inl rfl) e
 |met f y=>
  let e:Y6 0=a0 (PySem.W.methodObj _ _):=x
  change δq 0=a0 (PySem.W.methodObj _ _)
  show k a _ (.inl rfl) e
 |ext R=>let⟨p,⟨o,e⟩,T⟩:=x;show⟨T _ _ p λo q=>A5 (.inl rfl) q,⟨o,A5 (.inl rfl) e⟩,T⟩
def HOk.lt{h:e_}{o:HO}(x:W2 h)(e:H a=a0 o):a<h.objs.size:=(x a o e).lt
def HOk.fresh{h:e_}(x:W2 h)(e:h.objs.size<=a):H a=a7:=by
 cases q:H a with
 |none=>rfl
 |some u=>exact absurd (xa (x.lt q) e)<|z6 _
def HOk.kept{h:e_}(x:W2 h)(k:∀b u,YO 0=a0 u->Xs 0=a0 u):W2 h':=λa o e=>(x a o e).stay (λb u _ q=>γg q) (λ_ q=>q) λ_ _ q=>q
def HOk.laid{h:e_}{o:HO}(x:W2 h)(k:∀b u,YO 0=a0 u->Xs 0=a0 u)(p:h.objs.size<=a)(n:bT P w (YG o) h' a o):HOk P w (YG o) h':=λb u e=>by
 let N:=x.fresh p;by_cases B:b=a
 ·subst B;rw[aJ]at e;cases e;show n
 ·rw[aF B]at e;show(x b u e).stay (λc v _ q=>k c v q) (λc q=>by rw[aF<|cP q N];show q) λc s q=>by rw[aF<|cP q N];show q
abbrev Rd(H:Hp)(a:d8)(u:HO):Prop:=H a=a0 u\/∃o,H a=a0 (.frz o u)
def Rd.ok{h:e_}{u:HO}(r:βR u)(x:W2 h):Xw u:=by
 rcases r with r|⟨o,r⟩
 ·show x a u r
 ·let⟨_,q⟩:=x a _ r;show q
abbrev Mut:jh HO->Prop
 |some (.lst _)=>True
 |some (.dK _)=>True
 |some (.dT _)=>True
 |some (.set _ _)=>True
 |some (.ins _ _ _)=>True
 |some (.ext _)=>True
 |_=>False
section
variable{h:e_}{x e:d8}{o':HO}
def HOk.write(O:W2 h)(m:Mut (H x))(E:e=x\/H e=a0 (.own x))(k:∀b u,b≠e->YO 0=a0 u->Xs 0=a0 u)(o:∃u,h'.get? e=a0 u)
  (N:bT P w (t_ x o') h' x o'):HOk P w (t_ x o') h':=λb u q=>by
 let n:∀c y,H c=a0 (.own y)->c≠x:=λc y r z=>by subst z;rw[r]at m;show m
 by_cases t:b=x
 ·subst t;rw[aJ]at q;cases q;show N
 ·rw[aF t]at q;by_cases B:b=e
  ·let Q:H b=a0 (.own x):=by
    rcases E with z|z
    ·show absurd (B.trans z) t
    ·rw[B];show z
   rw[q]at Q;cases Q;let⟨v,V⟩:=o;show⟨v,by rw[B];show V⟩
  ·refine(O b u q).stay (λc v C r=>k c v ?_ r) (λc r=>by rw[aF<|n c b r];show r) λc s r=>by rw[aF<|(λc s r z=>by subst z;rw[r]at m;show m) c s r];show r
   rcases C with rfl|C
   ·show B
   ·rintro rfl;rcases E with z|z
    ·show n c b C z
    ·rw[C]at z;cases z;show t rfl
end
structure Un(fs ex:i_ d8)(H H':Hp)(h h':e_):Prop where
 keep:∀b o,h.get? b=some o->H b=none->b∉fs->b∉ex->h'.get? b=some o
 slot:∀b o,h.get? b=some o->H b=none->b∈fs->b∉ex->∃sl,h'.get? b=some { o with slots:=sl}
 free:∀b o,h.get? b=some o->H b=none->b∉ex->H' b=none
 there:∀b o,h.get? b=some o->b∉ex->∃o',h'.get? b=some o'
 tups:∀b xs,H b=some (.tup xs)->H' b=some (.tup xs)
 frzs:∀b o u,H b=some (.frz o u)->H' b=some (.frz o u)
 tbls:∀b ps,H b=some (.tbl ps)->∃more,H' b=some (.tbl (ps++more))
variable{H1:Hp}{ex:i_ d8}{ob:Obj}
section
variable{fs i8 ex':i_ d8}{h h1 h2:e_}{x e:d8}{o:HO}
def Un.any(u:βx H1 h h1){b:d8}(q:YO 0=a0 ob)(n:H b=a7)(X:b∉ex):∃s,h1.get? b=a0 { ob with slots:=s}:=by
 by_cases B:b∈fs
 ·show u.slot b ob q n B X
 ·show⟨ob.slots,u.keep b ob q n B X⟩
def Un.kept(k:∀b u,YO 0=a0 u->Xs 0=a0 u):βx H h h':=⟨λb O q _ _ _=>k b O q,λb O q _ _ _=>⟨O.slots,k b O q⟩,λ_ _ _ n _=>n,λb O q _=>⟨O,k b O q⟩,λ_ _ q=>q,λ_ _ _ q=>q,λ_ p q=>⟨#[],by rw[q];simp⟩⟩
def Un.refl:βx H h h:=Un.kept λ_ _ q=>q
def Un.laid(k:∀b u,YO 0=a0 u->Xs 0=a0 u)(p:h.objs.size<=a)(N:H a=a7):βx (YG o) h h' where
 keep:=λb u q _ _ _=>γg q
 slot:=λb u q _ _ _=>⟨u.slots,γg q⟩
 free:=λb u q n _=>by rw[aF<|xj<|xa (wt q) p];show n
 there:=λb u q _=>⟨u,γg q⟩
 tups:=λb s q=>by rw[aF<|cP q N];show q
 frzs:=λb u s q=>by rw[aF<|cP q N];show q
 tbls:=λb P q=>⟨#[],by rw[aF<|cP q N,q];simp⟩
def Un.write(m:Mut (H x))(w:e=x\/H e=a0 (.own x))(k:∀b u,b≠e->YO 0=a0 u->Xs 0=a0 u)(E:∃u,h'.get? e=a0 u):βx (t_ x o) h h':=by
 let X:∀b,H b=a7->b≠x:=λb n z=>by subst z;rw[n]at m;show m
 let y:∀b,H b=a7->b≠e:=λb n z=>by
  subst z;rcases w with r|r
  ·show X b n r
  ·rw[n]at r;cases r
 let M:∀b u,H b=a0 u->¬ Mut (a0 u)->b≠x:=λb u q N z=>by subst z;rw[q]at m;show N m
 refine⟨λb u q n _ _=>γg (y b n) q,λb u q n _ _=>⟨u.slots,γg (y b n) q⟩,λb u q n _=>by rw[aF (X b n)];show n,λb u q _=>?_,
  λb s q=>by rw[aF (M b _ q λz=>z)];show q,λb u s q=>by rw[aF (M b _ q λz=>z)];show q,λb p q=>⟨#[],by rw[aF (M b _ q λz=>z),q];simp⟩⟩
 by_cases B:b=e
 ·subst B;show E
 ·show⟨u,γg B q⟩
end
abbrev trk(h:e_)(H:Hp):i_ d8:=(zo h.objs.size).filter λa=>(H a).isSome
abbrev zS(h:e_)(H:Hp):e_:=PySem.W.hideAll h<|trk h H
def Fm(h)(H):(zS h H).objs.size=h.objs.size:=PySem.W.hideAll_size _ _
def GF{h:e_}{b:d8}{o:Obj}(e:YO 0=a0 o)(n:H b=a7):(zS h H).get? b=a0 o:=PySem.W.hideAll_get _ e λm=>by let q:=(Uk.mp m).2;rw[n]at q;simp at q
def K6{h:e_}{b:d8}{o:Obj}(e:(zS h H).get? b=a0 o):YO 0=a0 o/\H b=a7:=by
 let E:=PySem.W.of_hideAll _ e;refine⟨E,?_⟩;cases q:H b with
 |none=>rfl
 |some x=>have z:(zS h H).get? b=a7:=PySem.W.hideAll_none _ (Uk.mpr ⟨Vu.mpr<|wt E,by simp[q]⟩);rw[z]at e;cases e
abbrev K7(g h:e_)(L:d8):List (d8×Obj):=(zo h.objs.size).filterMap λa=>if a=L\/(g.get? a).isSome=true then a7 else(Y6 0).map λo=>(a,o)
abbrev rest(g h:e_)(L d:d8):List (d8×Obj):=(K7 g h L).filter λp=>decide (p.1≠d)
structure Mod(K:wc)(mg:(Str->Option d6))(base:e_):Prop where
 kin:K.In base
 glob:base.Ns Uz mg
 blt:∃mb,base.Ns builtinsNs mb/\∀x:Str,x≠"__name__" -> mb x=Vv x
 nolimit:base.NoLimit
structure Cx where
 prog:f_
 w:fI
 K:wc
 mg:(Str->Option d6)
 base:e_
 A:d_
 N:i_ Str
 s₀:d7
 H₀:Hp
 env:Env
 outer:i_ Env
 stack:i_ Env
 ex:i_ d8
 fn:Str->Bool
 calm:Bool
 pn:List (d8×Obj)
 xe:(d6->d7->Prop)
abbrev frs(l:i_ Env):i_ d8:=l.filterMap (·.frame)
@[reducible]noncomputable def Cx.fs(X:Cx):i_ d8:=frs X.outer
abbrev Vis(sc:Scope)(x:Str):Prop:=A7 0=a0 .local\/A7 0=a0 .cell\/A7 0=a0 .free
abbrev Loc(sc:Scope)(x:Str):Prop:=A7 0=a0 .local\/A7 0=a0 .cell
abbrev Look(env:Env)(h:e_)(m:(Str->T_ 0))(x:Str)(u:d6):Prop:=(env.kindOf x=a0 .local/\m x=a0 u)\/((env.kindOf x=a0 .cell\/env.kindOf x=a0 .free)/\∃c,env.cells.lookup x=a0 c/\h.IsCell c (a0 u))
structure Cx.Ok(X:Cx):Prop where
 mod:Mod X.K X.mg X.base
 kind:X.env.scope.kind=.function
 glob:X.env.globals=Uz
 blt:X.env.builtins=builtinsNs
 above:X.s₀.heap.objs.size<=X.env.locals
 inj:∀x y c,X.env.cells.lookup x=some c->X.env.cells.lookup y=some c->x=y
 has:∀x,(X.env.kindOf x=some .cell\/X.env.kindOf x=some .free)->∃c,X.env.cells.lookup x=some c
 cab:∀x c,X.fn x=true->X.env.cells.lookup x=some c->X.s₀.heap.objs.size<=c
 hd:X.calm=true->X.A.handled=none
 frames:X.A.frames=some X.stack
 stk:X.stack=X.outer\/(X.stack=X.env::X.outer/\X.env.frame=some X.env.locals)
 exf:∀b∈X.ex,b≠X.env.locals/\∀x c,X.env.cells.lookup x=some c->c≠b
 bs:∀b o,X.base.get? b=some o->X.s₀.heap.get? b=some o/\X.H₀ b=none
 bsz:X.base.objs.size<=X.s₀.heap.objs.size
 noex:∀b o,X.base.get? b=some o->b∉X.ex
 exfs:∀b∈X.ex,b∉X.fs
 funs:X.s₀.heap.FunFrames X.base X.outer
 frf:∀b∈X.fs,X.H₀ b=none
structure Inv(X:Cx)(b9:List (d8×Obj))(σ:i_ (jh V))(H:Hp)(s:d7):Prop where
 ok:X.Ok
 os:s.os=X.s₀.os
 bare:AllBare s.gens
 base:Un X.fs X.ex X.H₀ H X.s₀.heap s.heap
 loc:∃m,s.heap.Ns X.env.locals m/\∀(i:Nat)(x:Str)(v:V),X.N[i]?=some x->σ[i]?=some (some v)->Vis X.env.scope x->∃u,RelV v u/\Look X.env s.heap m x u
 cell:∀x c,X.env.cells.lookup x=some c->∃v,s.heap.IsCell c v
 free:H X.env.locals=none
 freeC:∀x c,X.env.cells.lookup x=some c->H c=none
 pin:∀p∈X.pn++b9,s.heap.get? p.1=some p.2/\H p.1=none/\p.1≠X.env.locals/\p.1∉X.fs/\∀v,p.2.data≠.cell v
 hok:HOk X.prog X.w H s.heap
 len:σ.length=X.N.length
variable{X:Cx}{b9:List (d8×Obj)}{s:d7}{ch:i_ d8}{d':Drawn}{g':Array GenState}{t':Nat}{it:d8}{f6:List (d8×Obj)}{N:yp 0}{i j:Nat}{x:Str}{A:d_}{E:(d6->d7->Prop)}{M:Model}{s':d7}
section
variable{σ:i_ (jh V)}
def Cx.Ok.nofr(k:X.Ok){b:d8}{o:Obj}(e:X.base.get? b=a0 o):b∉X.fs:=λh=>by have:=(k.funs.mem h).1;rw[e]at this;cases this
def Inv.bs(I:q_ s):∀b o,X.base.get? b=a0 o->oa 0=a0 o/\H b=a7:=λb o e=>⟨αi (γh e).1 (γh e).2 (I.ok.nofr e)<|I.ok.noex b o e,αj (γh e).1 (γh e).2<|I.ok.noex b o e⟩
def Inv.bk(I:q_ s):∀b o,X.base.get? b=a0 o->oa 0=a0 o:=λb o e=>(I.bs b o e).1
def Inv.mod(I:q_ s):Mod X.K X.mg X.base:=I.ok.mod
def Inv.kIn(I:q_ s):X.K.In s.heap:=I.ok.mod.kin.keeps I.bk
def Inv.lt(I:q_ s):X.env.locals<((s).heap.objs.size):=by obtain ⟨_,hn,_⟩:=I.loc;exact hn.lt
def Inv.sz(I:q_ s):X.s₀.heap.objs.size<=((s).heap.objs.size):=yd I.ok.above<|zi I.lt
def Inv.nofs(I:q_ s)(h:((s).heap.objs.size)<=a):a∉X.fs:=λb=>by let⟨_,o,O,_⟩:=I.ok.funs.mem b;show absurd (xa (wt O)<|yd I.sz h)<|z6 _
def Inv.cne(I:q_ s):∀x c,r_ 0=a0 c->c≠X.env.locals:=λx c e z=>by let⟨v,o,y,d⟩:=αA e;let⟨m,⟨w,E,p,O,h,_⟩,_⟩:=I.loc;rw[z,O]at y;cases y;rw[h]at d;cases d
def Inv.funs(I:q_ s):αa X.outer:=by
 let a:∀(l),(∀b∈frs l,b∈X.fs)->X.s₀.heap.FunFrames X.base l->αa l:=by
  intro l
  induction l with
  |nil=>intro _ _;trivial
  |cons n r i=>rintro S ⟨k,⟨L,o,f,N,O,d⟩,R⟩;let h:=S L (by unfold frs;rw[V6,f];show wa);let⟨x,e⟩:=I.base.slot L o O (I.ok.frf L h) h λz=>I.ok.exfs L z h;show⟨k,⟨L,_,f,N,e,d⟩,i (λb B=>S b (by unfold frs;rw[V6,f];show YI B)) R⟩
 show a _ (λ_ B=>B) I.ok.funs
def Inv.stack(I:q_ s):αa X.stack:=by
 rcases I.ok.stk with e|⟨e,h⟩
 ·rw[e];show I.funs
 ·rw[e];let⟨m,n,_⟩:=I.loc;refine .cons (by rw[I.ok.kind];decide) h n ?_ I.funs;show Heap.get?_none_of_le<|yd I.ok.bsz I.ok.above
def Inv.stkSub(I:q_ s):∀b∈frs X.stack,b∈X.env.locals::X.fs:=λb h=>by
 rcases I.ok.stk with e|⟨e,f⟩
 ·rw[e]at h;show YI h
 ·rw[e]at h;unfold frs at h;rw[V6,f]at h;show h
def Inv.stkFree(I:q_ s):∀b∈frs X.stack,H b=a7:=λb h=>by
 rcases wu.mp (I.stkSub b h) with e|h
 ·rw[e];show I.free
 ·let⟨_,o,O,_⟩:=I.ok.funs.mem h;show αj O (I.ok.frf b h) λz=>I.ok.exfs b z h
def Inv.step(I:q_ s)(C:∀b∈ch,(b∈X.ex\/X.s₀.heap.objs.size<=b)/\b≠X.env.locals/\(∀x c,r_ 0=a0 c->c≠b)/\∀p∈X.pn++b9,p.1≠b)(E:∀b o,b≠X.env.locals->b∉X.fs->b∉ch->oa 0=a0 o->H b=a7->Xs 0=a0 o)(S:∀b o,b≠X.env.locals->b∈X.fs->b∉ch->oa 0=a0 o->H b=a7->∃W,Xs 0=a0 { o with slots:=W})(f:∀b o,b∉ch->oa 0=a0 o->H b=a7->H' b=a7)(T:∀b o,b∉ch->oa 0=a0 o->∃a,Xs 0=a0 a)(U:∀b j,H b=a0 (.tup j)->H' b=a0 (.tup j))(F:∀b o u,H b=a0 (.frz o u)->H' b=a0 (.frz o u))(Z:∀b P,H b=a0 (.tbl P)->∃M,H' b=a0 (.tbl<|P++M))(ns:∀m,s.heap.Ns X.env.locals m->h'.Ns X.env.locals m)(Y:ZM h')(hg:AllBare g'):
  β5 {s with heap:=h',gens:=g',drawn:=d',toks:=t'}:=by
 let L:∀b o,X.s₀.heap.get? b=a0 o->b≠X.env.locals:=λb o e=>xj<|xa (wt e) I.ok.above;let t:∀b o,X.s₀.heap.get? b=a0 o->b∉X.ex->b∉ch:=λb o e h B=>by
  rcases(C b B).1 with z|z
  ·show h z
  ·show absurd (xa (wt e) z) (z6 _)
 let K:∀x c,r_ 0=a0 c->∀v,s.heap.IsCell c v->h'.IsCell c v:=λx c e v ⟨o,O,D⟩=>by
  let N:=λz=>(C c z).2.2.1 x c e rfl;by_cases R:c∈X.fs
  ·let⟨W,q⟩:=S c o (I.cne x c e) R N O<|I.freeC x c e;show⟨_,q,D⟩
  ·show⟨o,E c o (I.cne x c e) R N O<|I.freeC x c e,D⟩
 refine⟨I.ok,I.os,hg,⟨λb o e n B h=>?_,λb o e n B h=>?_,λb o e n h=>?_,λb o e h=>?_,λb j e=>U b j<|I.base.tups b j e,λb o j e=>F b o j<|I.base.frzs b o j e,λb P e=>?_⟩,?_,λx c e=>?_,?_,λx c e=>?_,λp Q=>?_,Y,I.len⟩
 ·show E b o (L b o e) B (t b o e h) (αi e n B h) (αj e n h)
 ·let⟨W,y⟩:=αk h;let⟨V,g⟩:=S b _ (L b o e) B (t b o e h) y<|I.base.free b o e n h;show⟨V,g⟩
 ·let⟨a,y⟩:=Zo h;show f b a (t b o e h) y<|I.base.free b o e n h
 ·let⟨a,y⟩:=Zo h;show T b a (t b o e h) y
 ·let⟨m1,y⟩:=I.base.tbls b P e;let⟨m2,g⟩:=Z b _ y;show⟨m1++m2,by rw[g,Array.append_assoc]⟩
 ·let⟨m,hn,hl⟩:=I.loc;refine⟨m,ns m hn,λi x v y g A=>?_⟩;let⟨u,r,l⟩:=hl i x v y g A;refine⟨u,r,?_⟩;rcases l with l|⟨k,c,e,z⟩
  ·show .inl l
  ·show .inr ⟨k,c,e,K x c e _ z⟩
 ·let⟨v,z⟩:=αA e;show⟨v,K x c e v z⟩
 ·let⟨m,⟨o,_,_,O,_⟩,_⟩:=I.loc;show f _ o (λz=>(C _ z).2.1 rfl) O I.free
 ·let⟨v,o,O,D⟩:=αA e;show f c o (λz=>(C c z).2.2.1 x c e rfl) O<|I.freeC x c e
 ·let⟨e,n,J,G,d⟩:=αO Q;let N:=λz=>(C p.1 z).2.2.2 p Q rfl;show⟨E p.1 p.2 J G N e n,f p.1 p.2 N e n,J,G,d⟩
def Inv.un(I:q_ s)(u:Un X.fs [] H H' s.heap h')(k:ZM h'):β5 {s with heap:=h',toks:=t'}:=by let⟨m,⟨o,S,P,O,r⟩,_⟩:=id I.loc;let⟨l,L⟩:=u.any O I.free (by simp);show I.step (ch:=[]) (λ_ z=>nomatch z) (λb o _ B _ e n=>u.keep b o e n B<|by simp) (λb o _ B _ e n=>u.slot b o e n B<|by simp) (λb o _ e n=>u.free b o e n<|by simp) (λb o _ e=>u.there b o e<|by simp) u.tups u.frzs u.tbls (λy M=>by let⟨x,E,p,h,R⟩:=M;rw[O]at h;cases h;show⟨_,E,p,L,R⟩) k I.bare
def Inv.call(I:q_ s)(u:Un (frs X.stack) ch H H' s.heap h')(k:ZM h')(g:AllBare g')(C:∀b∈ch,(b∈X.ex\/X.s₀.heap.objs.size<=b)/\b≠X.env.locals/\(∀x c,r_ 0=a0 c->c≠b)/\∀p∈X.pn++b9,p.1≠b):
  β5 {s with heap:=h',gens:=g',drawn:=d',toks:=t'}:=by
 let⟨m,⟨o,v,P,y,r⟩,_⟩:=id I.loc;let⟨l,L⟩:=u.any y I.free λz=>(C _ z).2.1 rfl;show I.step C (λb o L B h e n=>u.keep b o e n (λz=>(wu.mp<|I.stkSub b z).elim L B) h) (λb o _ _ h e n=>u.any e n h) (λb o h e n=>u.free b o e n h) (λb o h e=>u.there b o e h) u.tups u.frzs u.tbls (λt M=>by let⟨q,S,E,O,R⟩:=M;rw[y]at O;cases O;show⟨_,S,E,L,R⟩) k g
def Inv.turned(I:q_ s)(k:∀b o,b≠it->oa 0=a0 o->Xs 0=a0 o)(N:H it=a7)(L:it≠X.env.locals)(h1:it∈X.ex\/X.s₀.heap.objs.size<=it)(h2:∀x c,r_ 0=a0 c->c≠it)(y:∀p∈X.pn++b9,p.1≠it):q_ {s with heap:=h',toks:=t'}:=by
 let i:∀b u,H b=a0 u->b≠it:=λb u e z=>by rw[z,N]at e;cases e
 refine I.step (ch:=[it]) (λb B=>?_) (λb o _ _ h e _=>k b o (λz=>h<|by simp[z]) e) (λb o _ _ h e _=>⟨o.slots,k b o (λz=>h<|by simp[z]) e⟩) (λ_ _ _ _ n=>n)
  (λb o h e=>⟨o,k b o (λz=>h<|by simp[z]) e⟩) (λ_ _ e=>e) (λ_ _ _ e=>e) (λb P e=>⟨#[],by rw[e];simp⟩) (λm M=>?_) (λb u e=>?_) I.bare
 ·let e:b=it:=by simpa using B
  subst e;show⟨h1,L,h2,y⟩
 ·let⟨o,S,E,O,r⟩:=M;show⟨o,S,E,k _ o (zj L) O,r⟩
 ·refine(αP u e).stay (λc v h q=>k c v ?_ q) (λ_ q=>q) λ_ _ q=>q;rcases h with z|z
  ·rw[z];show i b u e
  ·show i c _ z
def Inv.tok(I:q_ s)(t):q_ { s with toks:=t}:=I.un Un.refl I.hok
def Inv.kept(I:q_ s)(k:∀b u,oa 0=a0 u->Xs 0=a0 u):q_ {s with heap:=h',toks:=t'}:=I.un (Un.kept k)<|I.hok.kept k
def Inv.laid{o:HO}(I:q_ s)(k:∀b u,oa 0=a0 u->Xs 0=a0 u)(h:((s).heap.objs.size)<=a)(n:Z2 (YG o) h' a o):
  a8 (YG o) {s with heap:=h',toks:=t'}:=I.un (Un.laid k h<|I.hok.fresh h)<|I.hok.laid k h n
def Inv.write{x e:d8}{o:HO}(I:q_ s)(m:Mut (H x))(E:e=x\/H e=a0 (.own x))(k:∀b u,b≠e->oa 0=a0 u->Xs 0=a0 u)(h:∃u,h'.get? e=a0 u)(n:Z2 (t_ x o) h' x o):a8 (t_ x o) {s with heap:=h',toks:=t'}:=I.un (Un.write m E k h)<|I.hok.write m E k h n
def Inv.pins_of(I:q_ s)(h:∀p∈f6,s.heap.get? p.1=a0 p.2/\H p.1=a7/\p.1≠X.env.locals/\p.1∉X.fs/\∀v,p.2.data≠.cell v):Xd f6 σ H s:=⟨I.ok,I.os,I.bare,I.base,I.loc,I.cell,I.free,I.freeC,λp P=>(wg.mp P).elim (λz=>αO<|xr _ z)<|h p,I.hok,I.len⟩
def Bg(h:N.Nodup)(a:N[i]?=a0 x)(b:N[j]?=a0 x):i=j:=by let⟨z,e⟩:=vz.mp a;let⟨y,E⟩:=vz.mp b;show(List.getElem_inj h).mp (e.trans E.symm)
def xO{v:V}{Q:(Unit->d7->Prop)}(I:q_ s)(hN:X.N.Nodup)(hi:X.N[i]?=a0 x)(l:Ym x)(r:WV u)(h:∀m,Xd b9 (σ.set i<|a0 v) H m->(∃a,U9 a s.heap m.heap/\(a=X.env.locals\/r_ 0=a0 a))->Q () m)(hf:X.fn x=true\/vv 0=a0 .local:=by first|exact .inl rfl|exact .inr rfl|assumption):αl (storeName X.env x u) Q E s:=by
 let⟨m,f,hl⟩:=id I.loc;let Z:i<σ.length:=by rw[I.len];show(vz.mp hi).1
 let Y:=I.cne;let T:∀{a:d8}{W:e_},(∃o,YH 0=a0 o/\H a=a7)->U9 a _ W->HOk _ X.w H W:=λ{a W} ha S b ob e=>by
  let⟨_,_,f⟩:=ha;refine(αP ob e).stay (λc G C q=>(S.2 c ?_).trans q) (λ_ q=>q) λ_ _ q=>q;rintro rfl;rcases C with rfl|C
  ·rw[f]at e;cases e
  ·rw[f]at C;cases C
 rcases l with K|K
 ·refine wpAny_storeName_local K f (λW D S=>?_) (by rw[I.ok.kind];rfl);let⟨oL,_,_,Z,_⟩:=id f;refine h _ ⟨I.ok,I.os,I.bare,⟨λb o e n B l=>?_,λb o e n B l=>?_,I.base.free,λb o e l=>?_,I.base.tups,I.base.frzs,I.base.tbls⟩,⟨_,D,λj y T t g O=>?_⟩,λy c e=>?_,I.free,I.freeC,λp U=>?_,T ⟨oL,Z,I.free⟩ S,cA I.len⟩ ⟨_,S,.inl rfl⟩
  ·show(S.2 b<|xj<|xa (wt e) I.ok.above).trans (αi e n B l)
  ·let⟨R,t⟩:=αk l;show⟨R,(S.2 b<|xj<|xa (wt e) I.ok.above).trans t⟩
  ·let⟨o',t⟩:=Zo l;show⟨o',(S.2 b<|xj<|xa (wt e) I.ok.above).trans t⟩
  ·by_cases J:j=i
   ·subst J;rw[hi]at t;cases t;rw[z9 Z]at g;cases g
    show⟨u,r,.inl ⟨K,by simp⟩⟩
   ·rw[yt<|zj J]at g;let⟨u',r',q⟩:=hl j y T t g O;refine⟨u',r',?_⟩;rcases q with⟨k,e⟩|⟨k,c,e,z⟩
    ·refine .inl ⟨k,?_⟩;have:y≠x:=λe=>J<|Bg hN t<|e▸hi;simp[this,e]
    ·show .inr ⟨k,c,e,z.sameBut S<|Y y c e⟩
  ·let⟨G,z⟩:=I.cell y c e;show⟨G,z.sameBut S<|Y y c e⟩
  ·let⟨e,n,L,nf,d⟩:=αO U;show⟨(S.2 p.1 L).trans e,n,L,nf,d⟩
 ·let F:X.fn x=true:=by simp_all
  let⟨c,C⟩:=I.ok.has x<|.inl K;let⟨G,z⟩:=αA C;refine wpAny_storeName_cell I.ok.kind K C z<|λW U S=>?_;let⟨oc,O,D⟩:=id z;refine h {s with heap:=W} ⟨I.ok,I.os,I.bare,⟨λb o e n B l=>?_,λb o e n B l=>?_,I.base.free,λb o e l=>?_,I.base.tups,I.base.frzs,I.base.tbls⟩,⟨m,f.sameBut S<|zj<|Y x c C,λj y T t g O=>?_⟩,λy P e=>?_,I.free,I.freeC,λp U=>?_,T ⟨oc,O,I.freeC x c C⟩ S,cA I.len⟩ ⟨c,S,.inr C⟩
  ·show(S.2 b<|xj<|xa (wt e)<|I.ok.cab x c F C).trans (αi e n B l)
  ·let⟨R,t⟩:=αk l;show⟨R,(S.2 b<|xj<|xa (wt e)<|I.ok.cab x c F C).trans t⟩
  ·let⟨o',t⟩:=Zo l;show⟨o',(S.2 b<|xj<|xa (wt e)<|I.ok.cab x c F C).trans t⟩
  ·by_cases J:j=i
   ·subst J;rw[hi]at t;cases t;rw[z9 Z]at g;cases g
    show⟨u,r,.inr ⟨.inl K,c,C,U⟩⟩
   ·rw[yt<|zj J]at g;let⟨u',r',q⟩:=hl j y T t g O;refine⟨u',r',?_⟩;rcases q with q|⟨k,P,e,z'⟩
    ·show .inl q
    ·refine .inr ⟨k,P,e,z'.sameBut S ?_⟩;rintro rfl;show J<|Bg hN t<|I.ok.inj _ _ _ e C▸hi
  ·by_cases R:P=c
   ·subst R;show⟨_,U⟩
   ·let⟨w2,z2⟩:=I.cell y P e;show⟨w2,z2.sameBut S R⟩
  ·let⟨e,n,L,nf,d⟩:=αO U;refine⟨(S.2 p.1 ?_).trans e,n,L,nf,d⟩;intro q;rw[q,O]at e;let q':=yi e;show d G (by rw[<-q'];show D)
def Bh{v:V}{Q:(Unit->d7->Prop)}(I:q_ s)(y:X.N.Nodup)(hi:X.N[i]?=a0 x)(w:Ym x)(r:WV u)(h:∀S,Xd b9 (σ.set i<|a0 v) H S->Q () S)(f:X.fn x=true\/vv 0=a0 .local:=by first|exact .inl rfl|exact .inr rfl|assumption):αl (storeName X.env x u) Q E s:=xO I y hi w r (λS z _=>h S z) f
def Inv.call'(I:q_ s)(O:s'.os=s.os)(u:Un (frs X.stack) ch H H' s.heap s'.heap)(o:ZM s'.heap)(g:αm 0)(h:∀b∈ch,(b∈X.ex\/X.s₀.heap.objs.size<=b)/\b≠X.env.locals/\(∀x c,r_ 0=a0 c->c≠b)/\∀p∈X.pn++b9,p.1≠b):β5 s':=by let⟨z,G,d,t,y⟩:=s';let e:=O;subst e;show I.call u o g h
end
@[reducible]noncomputable def XK:=d6->jh d8->Hp->Prop
@[reducible]noncomputable def St:=i_<|jh V
@[reducible]noncomputable def VK:=V->Hp->Prop
@[reducible]noncomputable def TE:=St->Hp->VK->Prop
@[reducible]noncomputable def TT:=St->Hp->(Bool->Hp->Prop)->Prop
@[reducible]noncomputable def TA:=St->Hp->(i_ V->Hp->Prop)->Prop
structure Ends where
 nx:St->Hp->Prop
 rt:VK
 bk:St->Hp->Prop:=λ_ _=>False
 ct:St->Hp->Prop:=λ_ _=>False
@[reducible]noncomputable def TS:=Ends->St->Hp->Prop
abbrev EP(X:Cx)(b9:List (d8×Obj))(σ:St)(Q:VK)(u:d6)(s':d7):Prop:=∃v H',β5 s'/\WV u/\Q v H'
abbrev TP(X:Cx)(b9:List (d8×Obj))(σ:St)(Q:Bool->Hp->Prop)(b:Bool)(s':d7):Prop:=∃H',β5 s'/\Q b H'
abbrev AP(X:Cx)(b9:List (d8×Obj))(σ:St)(Q:i_ V->Hp->Prop)(us:Xu 0)(s':d7):Prop:=∃vs H',β5 s'/\Z3 0/\Q vs H'
abbrev SP(X:Cx)(b9:List (d8×Obj))(D:Ends)(f:Flow)(s':d7):Prop:=
 match f with
 |.next=>∃σ' H',Zf 0/\D.nx σ' H'
 |.brk=>∃σ' H',Zf 0/\D.bk σ' H'
 |.cont=>∃σ' H',Zf 0/\D.ct σ' H'
 |.ret u=>∃v σ' H',Zf 0/\WV u/\D.rt v H'
abbrev PE(X:Cx)(e:g_)(t:TE):Prop:=
 ∀(b9:List (d8×Obj))(s:d7)(σ:St)(H:Hp)(Q:VK),q_ s->t σ H Q->wpAny (b8 X) X.A (xl 0) (O_ Q) X.xe s
abbrev PT(X:Cx)(e:g_)(t:TT):Prop:=
 ∀(b9:List (d8×Obj))(s:d7)(σ:St)(H:Hp)(Q:Bool->Hp->Prop),q_ s->t σ H Q->wpAny (b8 X) X.A (γ2<|eval e X.env) (δd Q) X.xe s
abbrev PW(X:Cx)(e:g_)(t:TT):Prop:=
 ∀(whole:Sem d6)(b9:List (d8×Obj))(s:d7)(σ:St)(H:Hp)(Q:Bool->Hp->Prop),q_ s->t σ H Q->wpAny (b8 X) X.A (γ2 whole) (δd Q) X.xe s
variable{e:g_}
def PW.pt{t:TT}(h:PW X e t):PT X e t:=h _
abbrev PA(X:Cx)(es:i_ g_)(t:TA):Prop:=
 ∀(pos:Pos)(b9:List (d8×Obj))(s:d7)(σ:St)(H:Hp)(Q:i_ V->Hp->Prop),q_ s->t σ H Q->wpAny (b8 X) X.A (spliced<|backTo pos<|xq es X.env) (AP X b9 σ Q) X.xe s
abbrev PS(X:Cx)(st:h_)(t:TS):Prop:=
 ∀(b9:List (d8×Obj))(s:d7)(σ:St)(H:Hp)(D:Ends),q_ s->t D σ H->wpAny (b8 X) X.A (exec st X.env) (SP X b9 D) X.xe s
abbrev PSs(X:Cx)(st:i_ h_)(t:TS):Prop:=
 ∀(b9:List (d8×Obj))(s:d7)(σ:St)(H:Hp)(D:Ends),q_ s->t D σ H->wpAny (b8 X) X.A (execs st X.env) (SP X b9 D) X.xe s
def thn{α:Type}{t:Sem α}{Q Q':α->d7->Prop}(h:αl t Q E s)(H:∀a s,Q a s->Q' a s):αl t Q' E s:=U8 h H λ_ _ x=>x
variable{pos:Pos}{Q:(d6->d7->Prop)}{tA:TT}{ka:TT}{ta:TE}
section
abbrev S9(i:Nat):TE:=λσ H Q=>∃v,σ[i]?=a0 (a0 v)/\Q v H
abbrev tC(v:V):TE:=λ_ H Q=>Q v H
def GG(y:X.N[i]?=a0 x)(V:αn x)(D:(x == ("__debug__" : Str))=false:=by decide)(d:(x == ("__classdict__" : Str))=false:=by decide):N_ (.Name x pos) (S9 i):=by
 intro p s w H Q I h;let⟨v,e,h⟩:=h;let⟨m,n,L⟩:=I.loc;let⟨u,r,l⟩:=L i x v y e V;let f:EP X p w Q u s:=⟨v,H,I,r,h⟩;rcases l with⟨k,M⟩|⟨k,c,z,C⟩
 ·show wpAny_Name (wpAny_loadName_local I.ok.kind k n M f) D
 ·rcases k with k|k
  ·show wpAny_Name (wpAny_loadName_cell I.ok.kind k z C f) D
  ·show wpAny_Name (wpAny_loadName_free I.ok.kind k z C f d) D
def N'{i j pos}:N_ (.Constant (.int i) j pos) (tC<|.int i):=λ_ _ _ H _ I h=>wpAny_Constant_int ⟨.int i,H,Xx 0,⟨_,rfl⟩,h⟩
def Pz{b j pos}:N_ (.Constant (.bool b) j pos) (tC<|.bl b):=λ_ _ _ H _ I h=>Constant_bool ⟨.bl b,H,I,rfl,h⟩
def Na{j pos}:N_ (.Constant .none j pos) (tC .non):=λ_ _ _ H _ I h=>Constant_none ⟨.non,H,I,rfl,h⟩
def Nb{x j pos}:N_ (.Constant (.str x) j pos) (tC<|.str x):=λ_ _ _ H _ I h=>Calls.Constant_str ⟨.str x,H,Xx 0,⟨_,rfl⟩,h⟩
abbrev Gl(X:Cx)(x:Str):Prop:=X.env.kindOf x=a0 .globalImplicit
def kK{σ:St}(I:q_ s)(g:Yu x)(m:X.mg x=a0 u)(h:Q u s)(d:(x == ("__debug__" : Str))=false:=by decide):wpAny (b8 X) X.A (eval (.Name x pos) X.env) Q E s:=αB (Calls.loadGlobal_global (by rw[I.ok.glob];show βy 0) m h) d
def jF{σ:St}(I:q_ s)(g:Yu x)(m:X.mg x=a7)(v:Vv x=a0 u)(h:Q u s)(n:x≠"__name__" := by decide)(d:(x == ("__debug__" : Str))=false:=by decide):wpAny (b8 X) X.A (eval (.Name x pos) X.env) Q E s:=by let⟨b,z,y⟩:=I.mod.blt;show αB (Calls.loadGlobal_builtin (by rw[I.ok.glob];show βy 0) m (by rw[I.ok.blt];show z.keeps I.bk) ((y x n).trans v) h) d
def E8{v:V}(g:Yu x)(m:X.mg x=a0 u)(r:WV u)(d:(x == ("__debug__" : Str))=false:=by decide):N_ (.Name x pos) (tC v):=
 λ_ _ _ H _ I h=>kK I g m ⟨v,H,I,r,h⟩ d
def K8{v:V}(g:Yu x)(m:X.mg x=a7)(z:Vv x=a0 u)(r:WV u)(n:x≠"__name__" := by decide)(d:(x == ("__debug__" : Str))=false:=by decide):N_ (.Name x pos) (tC v):=
 λ_ _ _ H _ I h=>jF I g m z ⟨v,H,I,r,h⟩ n d
variable{a b:g_}{tb:TE}{rest:i_ g_}
abbrev Sa(t u:TT):TT:=λσ H Q=>t σ H λc H1=>if c=true then u σ H1 Q else Q false H1
abbrev tOr(t u:TT):TT:=λσ H Q=>t σ H λc H1=>if c=true then Q true H1 else u σ H1 Q
abbrev Sb(t:TT):TT:=λσ H Q=>t σ H λc H1=>Q (!c) H1
def K9(A:PT X a tA):PW X (.BoolOp .And [a] pos) tA:=by
 refine λw p s z H Q I h=>isTrue_and<|thn (A p s z H Q I h) λc S e=>?_;cases c with
 |true=>exact isTrue_and_nil e
 |false=>exact e
def Nc(A:PT X a tA):PW X (.BoolOp .Or [a] pos) tA:=by
 refine λw p s z H Q I h=>isTrue_or<|thn (A p s z H Q I h) λc S e=>?_;cases c with
 |false=>exact isTrue_or_nil e
 |true=>exact e
def Nd(A:PT X a tA)(hb:PW X (.BoolOp .And (b::rest) pos) ka):PW X (.BoolOp .And (a::b::rest) pos) (Sa tA ka):=by
 refine λw p s x H Q I h=>isTrue_and<|thn (A p s x H _ I h) λc S w0=>?_;let⟨z,y,q⟩:=w0;cases c with
 |true=>exact hb w p S x z Q y q
 |false=>exact⟨z,y,q⟩
def PB(A:PT X a tA)(hb:PW X (.BoolOp .Or (b::rest) pos) ka):PW X (.BoolOp .Or (a::b::rest) pos) (tOr tA ka):=by
 refine λw p s x H Q I h=>isTrue_or<|thn (A p s x H _ I h) λc S w0=>?_;let⟨z,y,q⟩:=w0;cases c with
 |true=>exact⟨z,y,q⟩
 |false=>exact hb w p S x z Q y q
def Nf(A:PT X a tA):PT X (.UnaryOp .Not a pos) (Sb tA):=by show λp s y H Q I h=>isTrue_not<|A p s y H (λc z=>Q (!c) z) I h
def Ng{op}{t:TE}(h:N_ a t):N_ (.BoolOp op [a] pos) t:=λp s z H Q I w=>BoolOp_one<|h p s z H Q I w
abbrev tIf(t:TT)(ta tb:TE):TE:=λσ H Q=>t σ H λc H1=>if c=true then ta σ H1 Q else tb σ H1 Q
def GH{c:g_}(C:PT X c tA)(A:N_ a ta)(hb:N_ b tb):N_ (.IfExp c a b pos) (tIf tA ta tb):=by
 refine λp s z H Q I h=>wpAny_IfExp<|thn (C p s z H _ I h) λd S w0=>?_;let⟨y,x,q⟩:=w0;cases d with
 |true=>exact A p S z y Q x q
 |false=>exact hb p S z y Q x q
end
abbrev SqL(K:wc)(H:Hp)(a:d8)(xs:i_ V):Prop:=
 βR (.lst xs)\/
  ∃(o:Obj)(its:y_ 0)(n:Nat),βZ 0=a0 o/\o.cls=.type "list" /\ o.dict=a7/\o.data=.seq its n/\its.size<=w9/\Yv its.toList
abbrev SqT(K:wc)(H:Hp)(a:d8)(xs:i_ V):Prop:=
 βR (.tup xs)\/
  ∃(o:Obj)(its:y_ 0)(n:Nat),βZ 0=a0 o/\o.cls=.type "tuple" /\ o.data=.seq its n/\its.size<=w9/\Yv its.toList/\o.dict=a7
abbrev Sd:d6->jh V
 |.none=>a0 .non
 |.bool b=>a0 (.bl b)
 |.int i _=>a0 (.int i)
 |.str x _=>a0 (.str x)
 |.bytes b _=>a0 (.byt b)
 |.float b _=>a0 (.flt b)
 |.ref a=>a0 (.ref a)
 |.type n=>a0 (.ty n)
 |_=>a7
def RelV.abs{x:V}(r:C_ u):Sd u=a0 x:=by
 cases x with
 |non=>cases r;rfl
 |bl _=>cases r;rfl
 |int _=>let⟨t,rfl⟩:=r;rfl
 |str _=>let⟨t,rfl⟩:=r;rfl
 |byt _=>let⟨t,rfl⟩:=r;rfl
 |flt _=>let⟨t,rfl⟩:=r;rfl
 |ref _=>cases r;rfl
 |ty _=>cases r;rfl
def RelV.inj{x y:V}(r:C_ u)(q:P_ u):x=y:=yi<|r.abs.symm.trans q.abs
def aI.inj:∀{xs ys:i_ V}{us:Xu 0},Yv us->aI ys us->xs=ys
 |_,_,_,.nil,.nil=>rfl
 |_,_,_,.cons r t,.cons R T=>by rw[r.inj R,aI.inj t T]
variable{K:wc}
section
variable{σ:St}{xs ys:i_ V}
def SqL.of(h:H a=a0 (.lst xs)):W9 a xs:=.inl<|.inl h
def SqT.of(h:H a=a0 (.tup xs)):WW a xs:=.inl<|.inl h
def Inv.list(I:q_ s)(h:YQ a xs):∃i,Yv i/\PlainL s.heap a i.toArray/\xs.length<=w9:=by
 rcases h with h|⟨o,i,n,k,c,d,S,Z,r⟩
 ·let⟨z,i,n,r,e⟩:=h.ok I.hok;show⟨i,r,⟨_,n,e,rfl,rfl,rfl⟩,z⟩
 ·refine⟨i.toList,r,⟨o,n,I.kIn a o k,c,d,cA S⟩,?_⟩;let e:=r.length;simp at e;omega
def Inv.tuple(I:q_ s)(h:α6 a xs):∃i,Yv i/\αo a i.toArray/\xs.length<=w9:=by
 rcases h with h|⟨o,i,n,k,c,S,Z,r,_⟩
 ·let⟨z,i,r,p⟩:=h.ok I.hok;show⟨i,r,p.is,z⟩
 ·refine⟨i.toList,r,⟨o,I.kIn a o k,c,n,cA S⟩,?_⟩;let e:=r.length;simp at e;omega
def Inv.list_inj(I:q_ s)(h:YQ a xs)(h':YQ a ys):xs=ys:=by
 let⟨t,r,⟨o,n,e,_,_,d⟩,_⟩:=I.list h;let⟨i,R,⟨O,N,E,_,_,D⟩,_⟩:=I.list h';rw[e]at E;cases E;rw[d]at D;injection D with d1 _;have:t=i:=by simpa using αp d1
 subst this;show r.inj R
def Inv.tuple_inj(I:q_ s)(h:α6 a xs)(h':α6 a ys):xs=ys:=by
 let⟨t,r,⟨o,e,_,n,d⟩,_⟩:=I.tuple h;let⟨i,R,⟨O,E,_,N,D⟩,_⟩:=I.tuple h';rw[e]at E;cases E;rw[d]at D;injection D with d1 _;have:t=i:=by simpa using αp d1
 subst this;show r.inj R
end
@[reducible]noncomputable def Cx.wish(X:Cx)(E:(d6->d7->Prop)):Cx:={ X with xe:=E}
@[reducible]noncomputable def Cx.nox(X:Cx):Cx:=X.wish λ_ _=>False
def Cx.Ok.wish(o:X.Ok)(E):(X.wish E).Ok:=⟨o.mod,o.kind,o.glob,o.blt,o.above,o.inj,o.has,o.cab,o.hd,o.frames,o.stk,o.exf,o.bs,o.bsz,o.noex,o.exfs,o.funs,o.frf⟩
def Cx.Ok.unwish(o:(X.wish E).Ok):X.Ok:=⟨o.mod,o.kind,o.glob,o.blt,o.above,o.inj,o.has,o.cab,o.hd,o.frames,o.stk,o.exf,o.bs,o.bsz,o.noex,o.exfs,o.funs,o.frf⟩
section
variable{σ:St}
def Inv.wish(I:q_ s)(E):Inv (X.wish E) b9 σ H s:=⟨I.ok.wish E,I.os,I.bare,I.base,I.loc,I.cell,I.free,I.freeC,I.pin,I.hok,I.len⟩
def Inv.unwish(I:Inv (X.wish E) b9 σ H s):q_ s:=⟨I.ok.unwish,I.os,I.bare,I.base,I.loc,I.cell,I.free,I.freeC,I.pin,I.hok,I.len⟩
def SP.unwish{D:Ends}{f:Flow}(h:SP (X.wish E) b9 D f s'):SP X b9 D f s':=by
 cases f with
 |next=>let⟨z,y,I,q⟩:=h;show⟨z,y,I.unwish,q⟩
 |brk=>let⟨z,y,I,q⟩:=h;show⟨z,y,I.unwish,q⟩
 |cont=>let⟨z,y,I,q⟩:=h;show⟨z,y,I.unwish,q⟩
 |ret u=>let⟨v,z,y,I,r,q⟩:=h;show⟨v,z,y,I.unwish,r,q⟩
def PSs.nox{st:i_ h_}{t:TS}(h:PSs X.nox st t):δr st t:=λp s y H D I w=>U8 (h p s y H D (I.wish _) w) (λ_ _ q=>q.unwish) λ_ _ z=>UK z
end
variable{te:TE}{tc:TT}
section
variable{st:h_}{rest:i_ h_}{t u:TS}
abbrev PC:TS:=λD σ H=>αQ H
abbrev Se(t u:TS):TS:=λD σ H=>t { D with nx:=u D} σ H
def K':δr [] PC:=λ_ _ σ H _ I h=>wpAny_execs_nil ⟨σ,H,I,h⟩
def GI(h1:PS X st t)(h2:δr rest u):δr (st::rest) (Se t u):=by
 refine λp s w H D I h=>wpAny_execs_cons<|thn (h1 p s w H { D with nx:=u D} I h) λf S q=>?_;cases f with
 |next=>let⟨z,y,x,q⟩:=q;show h2 p S z y D x q
 |ret v=>exact q
 |brk=>exact q
 |cont=>exact q
def Ka(h1:PS X st t):δr [st] t:=by
 refine λp s z H D I h=>wpAny_execs_cons<|thn (h1 p s z H D I h) λf S q=>?_;cases f with
 |next=>exact wpAny_execs_nil q
 |ret v=>exact q
 |brk=>exact q
 |cont=>exact q
def Inv.quiet{σ:St}(I:q_ s):interactive X.env=false:=by simp[interactive,I.ok.kind]
abbrev PD(te:TE):TS:=λD σ H=>te σ H λ_ H1=>αQ H1
def Kb(E:N_ e te)(S:WG e a7 pos.line X.env=Z4 0:=by rfl):PS X (.Expr e pos) (PD te):=by refine λp s z H D I h=>wpAny_Expr_any (thn (α7 h) λv o w0=>?_) I.quiet S;let⟨x,y,w,r,q⟩:=w0;show⟨z,y,w,q⟩
abbrev Sf(te:TE):TS:=λD σ H=>te σ H D.rt
def Nh(E:N_ e te):PS X (.Return (a0 e) pos) (Sf te):=by refine λp s z H D I h=>wpAny_Return_some<|thn (α7 h) λv S w0=>?_;let⟨x,y,w,r,q⟩:=w0;show⟨x,z,y,w,r,q⟩
abbrev Sh(c:TT)(t u:TS):TS:=λD σ H=>c σ H λb H1=>if b=true then t D σ H1 else u D σ H1
def PF{c:g_}{a b:i_ h_}(C:PT X c tc)(A:δr a t)(hb:δr b u):PS X (.If c a b pos) (Sh tc t u):=by
 refine λp s z H D I h=>wpAny_If<|thn (C p s z H _ I h) λd S w0=>?_;let⟨y,x,q⟩:=w0;cases d with
 |true=>exact A p S z y D x q
 |false=>exact hb p S z y D x q
end
@[reducible]noncomputable def TG:=V->St->Hp->(St->Hp->Prop)->Prop
@[reducible]noncomputable def TGs:=i_ V->St->Hp->(St->Hp->Prop)->Prop
abbrev PG(X:Cx)(target:g_)(t:TG):Prop:=
 ∀(b9:List (d8×Obj))(s:d7)(σ:St)(H:Hp)(v:V)(u:d6)(Q:St->Hp->Prop),q_ s->WV u->t v σ H Q->
  wpAny (b8 X) X.A (assign target X.env u) (λ_ s'=>∃σ' H',Zf 0/\Q σ' H') X.xe s
abbrev PGs(X:Cx)(ts:i_ g_)(t:TGs):Prop:=
 ∀(b9:List (d8×Obj))(s:d7)(σ:St)(H:Hp)(vs:i_ V)(us:Xu 0)(Q:St->Hp->Prop),q_ s->Z3 0->t vs σ H Q->
  wpAny (b8 X) X.A (assignInOrder ((VE ts X.env).map (·.2)) us) (λ_ s'=>∃σ' H',Zf 0/\Q σ' H') X.xe s
@[reducible]noncomputable def Si:=V->V->V->Hp->(Hp->Prop)->Prop
abbrev Sj(X:Cx)(t:Si):Prop:=
 ∀(b9:List (d8×Obj))(s:d7)(σ:St)(H:Hp)(o i v:V)(ov iv u:d6)(Q:Hp->Prop),q_ s->RelV o ov->RelV i iv->WV u->t o i v H Q->
  wpAny (b8 X) X.A (setItem ov iv u) (λ_ s'=>∃H',β5 s'/\Q H') X.xe s
abbrev GJ(i:Nat):TG:=λv σ H Q=>Q (σ.set i<|a0 v) H
def Kc(y:X.N.Nodup)(hi:X.N[i]?=a0 x)(w:Ym x)(f:X.fn x=true\/vv 0=a0 .local:=by first|exact .inl rfl|exact .inr rfl|assumption):PG X (.Name x pos) (GJ i):=by show λp s t H v u Q I r h=>wpAny_assign_Name<|Bh I y hi w r (λS z=>⟨_,H,z,h⟩) f
abbrev Sk:TGs:=λvs σ H Q=>vs=[]/\Q σ H
abbrev PJ(t:TG)(u:TGs):TGs:=λvs σ H Q=>∃v r,vs=v::r/\t v σ H λσ' H'=>u r σ' H' Q
def Kd:PGs X [] Sk:=by
 intro p s z H v u Q I r h;let⟨e,h⟩:=h;subst e;cases r
 show assignInOrder_nil ⟨z,H,I,h⟩
variable{es:i_ g_}
def GK{t:TG}{u:TGs}(h1:PG X e t)(h2:β6 u)(S:(VE (e::es) X.env).map (·.2)=assign e X.env::(ZN 0).map (·.2):=by rfl):PGs X (e::es) (PJ t u):=by
 intro p s o H n U Q I r h;let⟨v,V,E,h⟩:=h;subst E;cases r with
 |cons r R=>rw[S];refine assignInOrder_cons<|thn (h1 p s o H _ _ _ I r h) λ_ w w0=>?_;let⟨z,y,x,q⟩:=w0;show h2 p w z y _ _ Q x R q
abbrev PK(K:wc)(n:Nat)(t:TGs):TG:=λv σ H Q=>∃a xs,v=.ref a/\WW a xs/\xs.length=n/\t xs σ H Q
variable{n:Nat}
def Ni{k:Nat}{t:TGs}(c:X.calm=true)(h:β6 t)(N:(ZN 0).length=n:=by rfl)(S:(ZN 0).findIdx? (·.1)=a7:=by rfl):PG X (.Tuple es k pos) (PK X.K n t):=by
 intro p s z H v u Q I r w;let⟨a,j,E,q,l,w⟩:=w;subst E;cases r
 let⟨i,R,T,Z⟩:=I.tuple q;refine assign_Tuple_tuple (I.ok.hd c) T (by simp[N,<-l,R.length]) S λx m=>?_;let y:Xd p z H {s with heap:=x}:=I.kept λb o e=>m b o (xj<|wt e) e;show h p _ z H j _ Q y (cA R) w
abbrev Nj(te:TE)(g:TG):TS:=λD σ H=>te σ H λx H1=>g x σ H1 D.nx
variable{tg:g_}
def Nk{g:TG}(E:N_ e te)(G:PG X tg g)(S:swapsWithSole [tg] e pos.line X.env=Z4 0:=by rfl)(W:swappedStores [tg] e X.env=pure a7:=by rfl)(h1:(VE [tg] X.env).map (·.2)=[assign tg X.env]:=by rfl):PS X (.Assign [tg] e pos) (Nj te g):=by refine λp s z H D I h=>wpAny_Assign_stores (thn (α7 h) λv u w0=>?_) S W;let⟨x,y,w,r,Q⟩:=w0;rw[h1];show thn (G p u z y x v _ w r Q) λ_ t q=>q
variable{pos':Pos}
def Nl(t:X.N.Nodup)(hi:X.N[i]?=a0 x)(r:Ym x)(E:N_ e te)(S:WG e (a0<|.Name x pos') pos.line X.env=Z4 0:=by rfl)(f:X.fn x=true\/vv 0=a0 .local:=by first|exact .inl rfl|exact .inr rfl|assumption):
  PS X (.Assign [.Name x pos'] e pos) (Nj te<|GJ i):=by
 refine λp s o H D I h=>wpAny_Assign_Name (thn (E p s o H _ I h) λv n w0=>?_) S;let⟨y,z,w,R,q⟩:=w0;show Bh w t hi r R (λm u=>⟨_,z,u,q⟩) f
structure It where
 go:Nat->Hp->Prop
 yld:Nat->Hp->V->Hp->Prop
 stop:Nat->Hp->Prop
abbrev Bi(X:Cx)(b9:List (d8×Obj))(H:Hp)(b:d8):Prop:=H b=a7/\b≠X.env.locals/\b∉X.fs/\(b∈X.ex\/X.s₀.heap.objs.size<=b)/\(∀x c,r_ 0=a0 c->c≠b)/\∀p∈X.pn++b9,p.1≠b
def Inv.fpOk{σ:St}{b:d8}(I:q_ s)(hb:((s).heap.objs.size)<=b)(h:H' b=a7):Bi X b9 H' b:=by
 refine⟨h,zr<|xa I.lt hb,I.nofs hb,.inr<|yd I.sz hb,λx c e z=>?_,λp P z=>?_⟩
 ·let⟨v,q⟩:=αA e;show absurd (xa q.lt (by rw[z];show hb))<|z6 _
 ·show absurd (xa (wt (αO P).1) (by rw[z];show hb)) (z6 _)
structure Turn(P:f_)(w:fI)(K:wc)(tg:g_)(J:It)(fp:i_ d8)(it:d8)(tn:Nat->e_->Prop):Prop where
 mem:it∈fp
 obj:∀i h,tn i h->∀b∈fp,∃o,h.get? b=some o/\∀v,o.data≠.cell v
 keep:∀i h h',tn i h->(∀b∈fp,∀o,h.get? b=some o->h'.get? b=some o)->tn i h'
 item:∀(X:Cx),X.prog=P->X.w=w->X.K=K->X.calm=true->∀(i:Nat)(b9:List (d8×Obj))(s:d7)(σ:St)(H:Hp)(E:(d6->d7->Prop)),Inv X b9 σ H s->(∀b∈fp,Bi X b9 H b)->tn i s.heap->J.go i H->
  wpAny (model P w) X.A (pyNext (.ref it)) (λr s1=>∃u,r=some u/\
   wpAny (model P w) X.A (letOwnedTupleGo tg (.ref it) u) (λ_ s2=>∃x H',Inv X b9 σ H' s2/\RelV x u/\J.yld i H x H'/\tn (i+1) s2.heap/\∀b∈fp,H' b=none) E s1) E s
 done:∀(X:Cx),X.prog=P->X.w=w->X.K=K->X.calm=true->∀(i:Nat)(b9:List (d8×Obj))(s:d7)(σ:St)(H:Hp)(E:(d6->d7->Prop)),Inv X b9 σ H s->(∀b∈fp,Bi X b9 H b)->tn i s.heap->J.stop i H->
  wpAny (model P w) X.A (pyNext (.ref it)) (λr s1=>r=none/\Inv X b9 σ H s1) E s
 self:∀(A:d_)(i:Nat)(s:d7)(Q:(d6->d7->Prop))(E:(d6->d7->Prop)),tn i s.heap->Q (.ref it) s->wpAny (model P w) A (pyIter (.ref it)) Q E s
@[reducible]noncomputable def TI:=St->Hp->(It->Hp->Prop)->Prop
abbrev PIE(X:Cx)(b9:List (d8×Obj))(σ:St)(tg:g_)(R:It->Hp->Prop)(ng:d6)(s2:d7):Prop:=
 ∃(it:d8)(fp:i_ d8)(tn:Nat->e_->Prop)(J:It)(H':Hp),ng=.ref it/\β5 s2/\Turn X.prog X.w X.K tg J fp it tn/\tn 0 s2.heap/\(∀b∈fp,Bi X b9 H' b)/\R J H'
abbrev PI(X:Cx)(tg iter:g_)(wi:TI):Prop:=
 ∀(b9:List (d8×Obj))(s:d7)(σ:St)(H:Hp)(R:It->Hp->Prop),q_ s->wi σ H R->
  wpAny (b8 X) X.A (eval iter X.env) (λv s1=>wpAny (b8 X) X.A (pyIter v) (PIE X b9 σ tg R) X.xe s1) X.xe s
def E9{o:Obj}{n:String}{vs:y_ 0}{Q:(Unit->d7->Prop)}(O:s.heap.get? it=a0 o)(c:o.cls=.type n)(d:o.data=.fields vs)(N:["enumerate","zip","dict_itemiterator","dict_reverseitemiterator","odict_iterator","itertools.zip_longest","itertools.pairwise"].contains n=false)(H:Q () s):αl (letOwnedTupleGo tg (.ref it) u) Q E s:=by
 cases tg <;> first
  |exact v8 H
  | (cases u <;> first
    |exact v8 H
    | (refine vy (wpAny_load O ?_)
       rw[c,d]
       change αl (if(["enumerate","zip","dict_itemiterator","dict_reverseitemiterator","odict_iterator","itertools.zip_longest","itertools.pairwise"].contains n&&vs[0]? == a0 _)=true then _ else _) Q E s
       rw[if_neg (by intro h;rw[N]at h;cases h)];show v8 H))
abbrev Itl(K:wc)(a:d8):It:=⟨λi H=>∃xs x,W9 a xs/\xs[i]?=a0 x,λi H x H'=>H'=H/\∀xs,W9 a xs->xs[i]?=a0 x,λi H=>∃xs,W9 a xs/\xs.length<=i⟩
abbrev Itt(K:wc)(a:d8):It:=⟨λi H=>∃xs x,WW a xs/\xs[i]?=a0 x,λi H x H'=>H'=H/\∀xs,WW a xs->xs[i]?=a0 x,λi H=>∃xs,WW a xs/\xs.length<=i⟩
abbrev Itr(lo:Int)(n:Nat):It:=⟨λi _=>i<n,λi H x H'=>H'=H/\x=.int (lo+i),λi _=>n<=i⟩
def xP(a it):αC tg (Itl K a) [it] it (λi h=>h.IsListIter it a i) where
 mem:=by simp
 obj:=λi h t b B=>by
  let e:b=it:=by simpa using B
  subst e;let⟨o,e,c,d⟩:=t;show⟨o,e,λv z=>by rw[d]at z;cases z⟩
 keep:=λi h j t k=>t.at λo e=>k it (by simp) o e
 item:=by
  intro X Z Y g C i n s U H E I f t G;subst Z Y g;let⟨xs,x,q,V⟩:=G;let⟨T,R,p,J⟩:=I.list q;let⟨u,M,D⟩:=R.get V;let⟨F,y,N,r,m,l⟩:=f it (by simp);refine wpAny_pyNext_list_item t p.isList (cA M) λj S A=>?_;let Q:Xd n U H {s with heap:=j}:=I.turned (λb o B e=>(A.2 b B).trans e) F y r m l;let⟨o,e,c,d⟩:=id S;show⟨u,rfl,E9 e c d (by decide) ⟨x,H,Q,D,⟨rfl,λys L=>by rw[I.list_inj L q];show V⟩,S,λb B=>(f b B).1⟩⟩
 done:=by intro X Z Y g C i n s U H E I f t G;subst Z Y g;let⟨xs,q,V⟩:=G;let⟨T,R,p,J⟩:=I.list q;let⟨F,y,N,r,m,l⟩:=f it (by simp);let hl:=R.length;show wpAny_pyNext_list_end (I.ok.hd C) t p.isList (by simp;omega) λj O=>⟨rfl,I.turned (λb o B e=>O b o B e) F y r m l⟩
 self:=λ_ _ _ _ _ t h=>wpAny_pyIter_listiter t h
def CO(a it):αC tg (Itt K a) [it] it (λi h=>h.IsTupleIter it a i) where
 mem:=by simp
 obj:=λi h t b B=>by
  let e:b=it:=by simpa using B
  subst e;let⟨o,e,c,d⟩:=t;show⟨o,e,λv z=>by rw[d]at z;cases z⟩
 keep:=λi h j t k=>t.at λo e=>k it (by simp) o e
 item:=by
  intro X Z Y g C i n s U H E I f t G;subst Z Y g;let⟨xs,x,q,V⟩:=G;let⟨T,R,p,J⟩:=I.tuple q;let⟨u,M,D⟩:=R.get V;let⟨F,y,N,r,m,l⟩:=f it (by simp);refine wpAny_pyNext_tuple_item t (p) (cA M) λj S A=>?_;let Q:Xd n U H {s with heap:=j}:=I.turned (λb o B e=>(A.2 b B).trans e) F y r m l;let⟨o,e,c,d⟩:=id S;show⟨u,rfl,E9 e c d (by decide) ⟨x,H,Q,D,⟨rfl,λys L=>by rw[I.tuple_inj L q];show V⟩,S,λb B=>(f b B).1⟩⟩
 done:=by intro X Z Y g C i n s U H E I f t G;subst Z Y g;let⟨xs,q,V⟩:=G;let⟨T,R,p,J⟩:=I.tuple q;let⟨F,y,N,r,m,l⟩:=f it (by simp);let hl:=R.length;show wpAny_pyNext_tuple_end (I.ok.hd C) t (p) (by simp;omega) λj O=>⟨rfl,I.turned (λb o B e=>O b o B e) F y r m l⟩
 self:=λ_ _ _ _ _ t h=>wpAny_pyIter_tupleiter t h
def CP(it)(lo)(n):αC tg (Itr lo n) [it] it (λi h=>IsRangeIter h it (lo+(i)*1) ((n)-(i)) 1) where
 mem:=by simp
 obj:=λi h S b B=>by
  let e:b=it:=by simpa using B
  subst e;show⟨_,S,λv z=>by cases z⟩
 keep:=λi h q S k=>k it (by simp) _ S
 item:=by
  intro X l j m c i p s d H E I f S g;let⟨F,y,Y,x,u,r⟩:=f it (by simp);refine(Walks.range (I.ok.hd c) it lo 1 n).item i s _ _ g S λv q R V T U=>?_;let⟨t,rfl⟩:=V;let a:Xd p d H {s with heap:=q,toks:=R}:=I.turned (λb o B e=>U b o (cA B) e) F y x u r;refine⟨_,rfl,E9 T rfl rfl (by decide) ⟨.int _,H,a,⟨t,?_⟩,⟨rfl,rfl⟩,T,λb B=>(f b B).1⟩⟩;rw[Int.mul_one]
 done:=by intro X l j m c i p s d H E I f S g;let⟨F,y,Y,x,u,r⟩:=f it (by simp);show wpAny_pyNext_range_end (I.ok.hd c) S (by have:n<=i:=g;omega) λq Z=>⟨rfl,I.turned (λb o B e=>Z b o B e) F y x u r⟩
 self:=λ_ _ _ _ _ S h=>wpAny_pyIter_rangeiter S h
variable{tk:Nat}
def Bj{σ:St}{R:It->Hp->Prop}{lo hi:Int}{t u v:Tok}(I:q_ s)(h1:-(2 ^ 62)<=lo)(h2:lo<2 ^ 62)(h:-(2 ^ 62)<=hi)(r:hi<2 ^ 62)(q:R (Itr lo (hi-lo).toNat) H):wpAny (b8 X) X.A (pyIter<|.ref<|(s).heap.objs.size) (PIE X b9 σ tg R) E {s with heap:=s.heap.push {cls:=.type "range",data:=.fields #[.int lo t,.int hi u,.int 1 v]},toks:=tk}:=by
 refine wpAny_pyIter_range (IsRange.new ..) (small_one h1 h2 h r) ?_;let z:q_ {s with heap:=s.heap.push {cls:=.type "range",data:=.fields #[.int lo t,.int hi u,.int 1 v]},toks:=tk}:=I.kept λb o e=>W4 e;refine⟨(s.heap.push {cls:=.type "range",data:=.fields #[.int lo t,.int hi u,.int 1 v]}).objs.size,[(s.heap.push {cls:=.type "range",data:=.fields #[.int lo t,.int hi u,.int 1 v]}).objs.size],_,_,H,rfl,
  z.kept λb o e=>W4 e,CP _ lo (hi-lo).toNat,?_,λb B=>?_,q⟩
 ·let y:lo+((0:Nat):Int)*1=lo:=by simp
  let x:(((hi-lo).toNat:Nat):Int)-((0:Nat):Int)=Builtin.Range.rangeSize lo hi 1:=by rw[rangeSize_one];split <;> omega
  rw[y,x];show XO rfl
 ·let e:b=(s.heap.push {cls:=.type "range",data:=.fields #[.int lo t,.int hi u,.int 1 v]}).objs.size:=by simpa using B
  subst e;show z.fpOk (wj _)<|z.hok.fresh<|wj _
abbrev Sl(wi:TI)(g:TG)(tb:TS):TS:=λD σ H=>wi σ H λJ H1=>∃W:Nat->Nat->St->Hp->Prop,(∃m,W 0 m σ H1)/\∀i m σ H,W i m σ H->
 (β7 H/\αQ H)\/(J.go i H/\∃N:St->Hp->Prop,(∀σ' H',N σ' H'->∃m',m'<m/\W (i+1) m' σ' H')/\∀x H',δs H x H'->g x σ H' λσ2 H2=>tb { D with nx:=N,ct:=N,bk:=D.nx} σ2 H2)
abbrev uB(fp:i_ d8)(h:e_):List (d8×Obj):=fp.filterMap λb=>(YO 0).map λo=>(b,o)
variable{fp:i_ d8}
def kL{h:e_}{b:d8}{o:Obj}(hb:b∈fp)(e:YO 0=a0 o):(b,o)∈uB fp h:=List.mem_filterMap.mpr ⟨b,hb,by rw[e];rfl⟩
def Fo{h:e_}{p:d8×Obj}(P:p∈uB fp h):p.1∈fp/\h.get? p.1=a0 p.2:=by
 let⟨b,H,e⟩:=List.mem_filterMap.mp P;cases q:YO 0 with
 |none=>rw[q]at e;cases e
 |some o=>rw[q]at e;let E:=yi e;subst E;show⟨H,q⟩
def Inv.pinned{σ:St}(I:q_ s)(x:∀b∈fp,Bi X b9 H b)(O:∀b∈fp,∃o,oa 0=a0 o/\∀v,o.data≠.cell v):Xd (b9++uB fp s.heap) σ H s:=I.pins_of λp P=>(wg.mp P).elim (λz=>αO<|v9 _ z) λz=>by let⟨h,e⟩:=Fo z;let⟨f,F,y,_⟩:=x p.1 h;let⟨o,E,d⟩:=O p.1 h;rw[e]at E;cases E;show⟨e,f,F,y,d⟩
def Inv.unpinned{pl:List (d8×Obj)}{σ:St}(I:Xd (b9++pl) σ H s):q_ s:=I.pins_of λp h=>αO<|v9 _<|xr _ h
variable{iter:g_}
def Np{body:i_ h_}{wi:TI}{g:TG}{tb:TS}(P:PassesOwn (b8 X) X.A X.env X.xe)(d:X.calm=true)(hi:X3 wi)(hg:PG X tg g)(hb:δr body tb)(hs:∀x,W1 x=pure x:=by intro _;rfl):PS X (.For tg iter body [] pos) (Sl wi g tb):=by
 refine λp s σ H D I h=>wpAny_For (thn (hi p s σ H _ I h) λv s1 h1=>thn h1 λng s2 h2=>?_) hs;let⟨it,F,D,J,H2,e,I2,T,K,J,W,⟨m0,w0⟩,U⟩:=h2;subst e
 -- what stays true of the iterator's objects through the loop
 let S:∀{k:Hp},(∀b∈F,k b=a7)->∀b∈F,Bi X p k b:=λhn b hb=>⟨hn b hb,(J b hb).2⟩;refine codeAny_forLoop_any (λn s=>∃i q k,Xd p q k s/\D i s.heap/\(∀b∈F,k b=a7)/\W i n q k) ?_ m0 ⟨0,σ,H2,I2,K,λb hb=>(J b hb).1,w0⟩;rintro n H ⟨i,l,Y,B,Z,R,w3⟩;rcases U i n l Y w3 with⟨O,qn⟩|⟨go,N,hN,E⟩
 ·refine Yw (thn (T.done X rfl rfl rfl d i p H l Y X.xe B (S R) Z O) λr s4 w0=>?_);let⟨M,I4⟩:=w0;subst M;show wpAny_execs_nil ⟨l,Y,I4,qn⟩
 ·refine Yw (thn (T.item X rfl rfl rfl d i p H l Y X.xe B (S R) Z go) λr s4 w0=>?_);let⟨u,M,h4⟩:=w0;subst M;refine Yw<|thn h4 λ_ s5 w0=>?_;let⟨x,C,I5,r5,y5,j,V⟩:=w0;refine Yw<|thn (hg _ s5 l C x u _ (I5.pinned (S V)<|T.obj _ _ j) r5<|E x C y5) λ_ s6 w0=>?_;let⟨G,H6,I6,q6⟩:=w0;refine Yw<|thn (hb _ s6 G H6 _ I6 q6) λf L Q=>?_;let a:∀{z:St}{y:Hp},Xd (p++uB F _) z y L->N z y->∃m,m<n/\∃i q k,Xd p q k L/\D i _/\(∀b∈F,k b=a7)/\W i m q k:=λ{z y} t c=>by let⟨m',hm,w7⟩:=hN z y c;refine⟨m',hm,i+1,z,y,t.unpinned,T.keep _ _ _ j λb hb o e=>(t.pin _<|v9 _<|v9 _<|kL hb e).1,λb hb=>?_,w7⟩;let⟨o,e,d⟩:=T.obj _ _ j b hb;show(t.pin _<|v9 _<|v9 _<|kL hb e).2.1
  cases f with
  |next=>let⟨z,y,t,c⟩:=Q;show a t c
  |cont=>let⟨z,y,t,c⟩:=Q;show a t c
  |brk=>let⟨z,y,t,Q⟩:=Q;show⟨z,y,t.unpinned,Q⟩
  |ret v=>let⟨x7,z,y,t,r7,Q⟩:=Q;show⟨x7,z,y,t.unpinned,r7,Q⟩
@[reducible]noncomputable def R2:=V->V->Hp->VK->Prop
abbrev OpR(X:Cx)(f:d6->d6->Sem d6)(r:R2):Prop:=
 ∀(b9:List (d8×Obj))(s:d7)(σ:St)(H:Hp)(x y:V)(v u:d6)(Q:VK),q_ s->C_ v->P_ u->δt Q->
  wpAny (b8 X) X.A (f v u) (O_ Q) X.xe s
abbrev bX(X:Cx)(f:d6)(r:i_ V->Hp->VK->Prop):Prop:=
 ∀(b9:List (d8×Obj))(s:d7)(σ:St)(H:Hp)(xs:i_ V)(us:Xu 0)(Q:VK),q_ s->Yv us->r xs H Q->
  wpAny (b8 X) X.A (call f us) (O_ Q) X.xe s
abbrev Sm(X:Cx)(r:V->Hp->(Bool->Hp->Prop)->Prop):Prop:=
 ∀(b9:List (d8×Obj))(s:d7)(σ:St)(H:Hp)(x:V)(v:d6)(Q:Bool->Hp->Prop),q_ s->C_ v->r x H Q->
  wpAny (b8 X) X.A (truthy v) (δd Q) X.xe s
abbrev tOp(r:R2)(ta tb:TE):TE:=λσ H Q=>ta σ H λx H1=>tb σ H1 λy H2=>r x y H2 Q
abbrev rI(C:Int->Int->Prop)(g:Int->Int->V):R2:=λx y H Q=>∃i j,x=.int i/\y=.int j/\C i j/\Q (g i j) H
abbrev rI0(g:Int->Int->V):R2:=λx y H Q=>∃i j,x=.int i/\y=.int j/\Q (g i j) H
variable{f:d6->d6->Sem d6}
section
variable{a b c:g_}{tb tc:TE}
def Nq(n:N_ a ta)(hb:N_ b tb){σ:St}{R:V->V->Hp->Prop}(I:q_ s)(h:ta σ H λx q=>tb σ q λy z=>R x y z)(F:∀v u r x y z,a8 z r->C_ v->P_ u->R x y z->wpAny (b8 X) X.A (f v u) Q X.xe r):
  wpAny (b8 X) X.A (eval a X.env) (λv S=>wpAny (b8 X) X.A (eval b X.env) (λu t=>wpAny (b8 X) X.A (f v u) Q X.xe t) X.xe S) X.xe s:=by
 refine thn (n b9 s σ H _ I h) λv i w0=>?_;let⟨x,q,p,k,m⟩:=w0;refine thn (hb b9 i σ q _ p m) λu r w0=>?_;let⟨y,z,o,j,l⟩:=w0;show F v u r x y z o k j l
def PL{op:Operator}{r:R2}(o:A6 (UO op) r)(A:N_ a ta)(hb:N_ b tb):N_ (.BinOp a op b pos) (tOp r ta tb):=by show λp s t H Q I h=>wpAny_BinOp<|Nq A hb I h λv u S x y z w R Y q=>γ3 q
def opI{C:Int->Int->Prop}{g:Int->Int->Int}(r:∀(i j)(t u)(s)(Q)(E),C i j->Q (.int (g i j) s.toks) { s with toks:=s.toks+1}->wpAny (b8 X) X.A (f (.int i t)<|.int j u) Q E s):
  A6 f (rI C λi j=>.int<|g i j):=by
 rintro p s o H x y v u Q I R Y ⟨i,j,rfl,rfl,z,q⟩;let⟨t,rfl⟩:=R;let⟨T,rfl⟩:=Y;show γi z ⟨.int _,H,Xx 0,⟨_,rfl⟩,q⟩
def PM{g:Int->Int->Int}(r:∀(i j)(t u)(s)(Q)(E),Q (.int (g i j) s.toks) { s with toks:=s.toks+1}->wpAny (b8 X) X.A (f (.int i t)<|.int j u) Q E s):
  A6 f (rI0 λi j=>.int<|g i j):=by
 rintro p s z H x y v u Q I R Y ⟨i,j,rfl,rfl,q⟩;let⟨t,rfl⟩:=R;let⟨T,rfl⟩:=Y;show γi ⟨.int _,H,Xx 0,⟨_,rfl⟩,q⟩
def Nr{g:Int->Int->Bool}(r:∀(i j)(t u)(s)(Q)(E),Q (.bool<|g i j) s->wpAny (b8 X) X.A (f (.int i t)<|.int j u) Q E s):
  A6 f (rI0 λi j=>.bl<|g i j):=by
 rintro p s z H x y v u Q I R Y ⟨i,j,rfl,rfl,q⟩;let⟨t,rfl⟩:=R;let⟨T,rfl⟩:=Y;show γi ⟨.bl _,H,I,rfl,q⟩
abbrev GL(i j:Int):Prop:=0<j/\j<1073741824
abbrev Fp(i j:Int):Prop:=0<=j/\j<=1000000/\i.natAbs<2 ^ 64
abbrev CQ(i j:Int):Prop:=(-(2 ^ 64)<i/\i<2 ^ 64)\/(-(2 ^ 64)<j/\j<2 ^ 64)
def CQ.ok{i j:Int}(h:CQ i j):IntMulOk i j:=by
 rcases h with⟨H,z⟩|⟨H,z⟩
 ·show .of_left (intBits_le_64 H z)
 ·show .of_right (intBits_le_64 H z)
def Nt:A6 (UO .Add) (rI0 λi j=>.int<|i+j):=PM λ_ _ _ _ _ _ _ q=>add_int q
def Nu:A6 (UO .Sub) (rI0 λi j=>.int<|i-j):=PM λ_ _ _ _ _ _ _ q=>sub_int q
def Nv:A6 (UO .Mult) (rI CQ λi j=>.int<|i*j):=opI λ_ _ _ _ _ _ _ h q=>mul_int q h.ok
def Ke:A6 (UO .FloorDiv) (rI GL λi j=>.int<|i/j):=opI λi j _ _ _ _ _ h q=>by let H:(0)<j:=h.1;let z:=h.2;show floordiv_int ⋯ (by rw[Int.fdiv_eq_ediv_of_nonneg i ⋯];show q) (.inl<|PyProof.noPylong_small ⋯)
def Nx:A6 (UO .Mod) (rI (λ_ j=>0<j) λi j=>.int<|i%j):=opI λi j _ _ _ _ _ h q=>by let H:(0)<j:=h;show mod_int' ⋯ (by rw[Int.fmod_eq_emod_of_nonneg i ⋯];show q)
def Ny:A6 (UO .Pow) (rI Fp λi j=>.int<|i ^ j.toNat):=opI λ_ _ _ _ _ _ _ h q=>pow_int_small h.1 h.2.1 h.2.2 q
end
variable{r':R2}{its:Xu 0}
section
variable{a b c:g_}{tb tc:TE}
def uC{σ:St}{Q:VK}{k k':Bool}(I:q_ s)(q:Q (.bl k) H)(e:k=k'):O_ Q (.bool k') s:=by subst e;show⟨.bl k,H,I,rfl,q⟩
def PN:A6 (zt .Lt) (rI0 λi j=>.bl<|decide (i<j)):=Nr λ_ _ _ _ _ _ _ q=>lt_int q
def PP:A6 (zt .LtE) (rI0 λi j=>.bl<|decide (i<=j)):=Nr λ_ _ _ _ _ _ _ q=>le_int q
def PQ:A6 (zt .Gt) (rI0 λi j=>.bl<|decide (j<i)):=Nr λ_ _ _ _ _ _ _ q=>gt_int q
def Fq:A6 (zt .Lt) (λx y H Q=>∃i j,x=.str i/\y=.str j/\Q (.bl<|decide (i.cps.toList<j.cps.toList)) H):=by rintro p s z H x y v u Q I r R ⟨i,j,rfl,rfl,q⟩;let⟨t,rfl⟩:=r;let⟨T,rfl⟩:=R;show lt_str<|uC I q rfl
def Nz:A6 (zt .Is) (λx y H Q=>y=.non/\Q (.bl<|decide (x=.non)) H):=by
 rintro p s z H x y v u Q I r R ⟨rfl,q⟩;cases R
 refine is_none_gen<|uC I q ?_;cases x <;> first
  |(cases r;rfl)
  |(let⟨t,rfl⟩:=r;rfl)
def Kf:A6 (zt .IsNot) (λx y H Q=>y=.non/\Q (.bl<|!decide (x=.non)) H):=by
 rintro p s z H x y v u Q I r R ⟨rfl,q⟩;cases R
 refine isnot_none_gen<|uC I q ?_;cases x <;> first
  |(cases r;rfl)
  |(let⟨t,rfl⟩:=r;rfl)
def OpR.or{r:R2}(h:A6 f r)(h':A6 f r'):A6 f (λx y H Q=>δt Q\/r' x y H Q):=by
 intro p s z H x y v u Q I R Y q;rcases q with q|q
 ·show X4 x y v u Q I R Y q
 ·show h' p s z H x y v u Q I R Y q
def GM(b){op:CmpOp}(h:op≠.In:=by decide)(h2:op≠.NotIn:=by decide):αf b=false:=by
 let e:(op == CmpOp.In)=false:=by simp_all
 let E:(op == CmpOp.NotIn)=false:=by simp_all
 cases b <;> simp[behindInMarks,e,E]
def Kg{op:CmpOp}{r:R2}(o:A6 (zt op) r)(A:N_ a ta)(hb:N_ b tb)(m:αf b=false):N_ (.Compare a [op] [b] pos) (tOp r ta tb):=by show λp s t H Q I h=>wpAny_Compare1 (Nq A hb I h λv u S x y z w R Y q=>γ3 q) m
abbrev Kh(K:wc)(x:V)(H:Hp)(k:Bool):Prop:=
 match x with
 |.non=>k=false
 |.bl b=>k=b
 |.int i=>k=(i != 0)
 |.str y=>y.length<=w9/\k=((y.length:Int) != 0)
 |.byt y=>y.size<=w9/\k=((y.size:Int) != 0)
 |.ref p=>(∃xs,W9 p xs/\k=!xs.isEmpty)\/(∃xs,WW p xs/\k=!xs.isEmpty)\/∃kvs,H p=a0 (.dK kvs)/\k=!kvs.isEmpty
 |_=>False
def CS{κ:Type}{kvs:i_ (κ×V)}{vs:i_ (κ×d6)}(r:α5 vs):(!vs.isEmpty)=!kvs.isEmpty:=by cases r <;> rfl
def uD{xs:i_ V}(r:Yv its):(!its.toArray.isEmpty)=!xs.isEmpty:=by cases r <;> simp
def uE:(w9:Nat)<2 ^ 63:=by rw[Uu];decide
def GN:Sm X (λx H Q=>∃k,Kh X.K x H k/\Q k H):=by
 rintro b9 s σ H x v Q I rx ⟨k,e,q⟩;let hs:=Uu;cases x with
 |non=>
  cases rx
  subst e;show truthy_none ⟨H,I,q⟩
 |bl b=>
  cases rx
  subst e;show Wp ⟨H,I,q⟩
 |int i=>let⟨t,rfl⟩:=rx;let v:=e;subst v;show PySem.P.truthy_int ⟨H,I,q⟩
 |str y=>let⟨t,rfl⟩:=rx;obtain⟨hy,v⟩:y.length<=w9/\k=((y.length:Int) != 0):=e;subst v;show PySem.P.truthy_str ⋯ ⟨H,Xx 0,q⟩
 |byt y=>let⟨t,rfl⟩:=rx;obtain⟨hy,v⟩:y.size<=w9/\k=((y.size:Int) != 0):=e;subst v;show PySem.W.truthy_bytes ⋯ ⟨H,Xx 0,q⟩
 |ref p=>
  cases rx
  let v:=e;rcases v with⟨xs,hx,v⟩|⟨xs,hx,v⟩|⟨kvs,hx,v⟩
  ·subst v;let⟨its,r,pl,hz⟩:=I.list hx;let b:=r.length;show wpAny_truthy_list pl.isList (by simp only[w6];omega) ⟨H,Xx 0,by rw[uD r];show q⟩
  ·subst v;let⟨its,r,pl,hz⟩:=I.tuple hx;let b:=r.length;show truthy_tuple pl (by simp only[w6];omega) ⟨H,Xx 0,by rw[uD r];show q⟩
  ·subst v;obtain⟨hz,hS,vs,r,m⟩:kvs.length<=w9/\(p == Uy)=false/\∃vs,α5 vs/\s.heap.DictOf (bC X.prog X.w) p vs:=γj hx;let b:=ze r;show wpAny_truthy_dict hS m ⋯ ⟨H,Xx 0,by rw[CS r];show q⟩
 |_=>exact(e).elim
def GO(A:N_ a ta)(e:∀w,isTrue a X.env w=(do let v <-w;standAt a.pos;holding [v] (truthy v))):
  PT X a (λz H Q=>ta z H λx y=>∃k,Kh X.K x y k/\Q k y):=by
 refine λp s z H Q I h=>isTrue_plain (thn (A p s z H _ I h) λv S w0=>?_)<|e _
 let⟨x,u,t,r,q⟩:=w0
 exact GN p S z u x v Q t r q
def CT:A6 (UO .Add) (λx y H Q=>∃i j,x=.str i/\y=.str j/\i.length+j.length<=w9/\Q (.str<|i++j) H):=by rintro p s w H x y v u Q I r R ⟨i,j,rfl,rfl,z,q⟩;let⟨t,rfl⟩:=r;let⟨T,rfl⟩:=R;show add_str (λT k=>⟨.str _,H,Xx 0,⟨_,rfl⟩,q⟩) z
def vals1{x:V}(r:aI [x] us):∃u,us=[u]/\C_ u:=by
 cases r with
 |cons R z=>cases z;show⟨_,rfl,R⟩
def vals2{x y:V}(r:aI [x,y] us):∃u w,us=[u,w]/\C_ u/\P_ w:=by
 cases r with
 |cons R z=>
  cases z with
  |cons v t=>cases t;show⟨_,_,rfl,R,v⟩
abbrev Sn(K:wc)(x:V)(H:Hp)(n:Nat):Prop:=
 match x with
 |.str y=>y.length<=w9/\n=y.length
 |.byt y=>y.size<=w9/\n=y.size
 |.ref p=>(∃xs,W9 p xs/\n=xs.length)\/∃xs,WW p xs/\n=xs.length
 |_=>False
def GP:δu (.builtin "len") (λN H Q=>∃x n,N=[x]/\Sn X.K x H n/\Q (.int n) H):=by
 rintro N s σ H N us Q I r ⟨x,n,rfl,e,q⟩;let⟨u,rfl,w⟩:=vals1 r;let S:=Uu;cases x with
 |str y=>let⟨t,rfl⟩:=w;obtain⟨Y,E⟩:y.length<=w9/\n=y.length:=e;subst E;show len_str ⋯ ⟨.int _,H,Xx 0,⟨_,rfl⟩,q⟩
 |byt y=>let⟨t,rfl⟩:=w;obtain⟨Y,E⟩:y.size<=w9/\n=y.size:=e;subst E;show PySem.W.len_bytes ⋯ ⟨.int _,H,Xx 0,⟨_,rfl⟩,q⟩
 |ref p=>
  cases w
  let E:=e;rcases E with⟨N,z,E⟩|⟨N,z,E⟩
  ·subst E;let⟨i,R,P,Z⟩:=I.list z;let l:=R.length;show β8 (by simp only[w6];omega) ⟨.int _,H,Xx 0,⟨_,by simp only[w6];rw[l]⟩,q⟩
  ·subst E;let⟨i,R,P,Z⟩:=I.tuple z;let l:=R.length;show len_tuple P (by simp only[w6];omega) ⟨.int _,H,Xx 0,⟨_,by simp only[w6];rw[l]⟩,q⟩
 |_=>exact(e).elim
end
structure CU(h:e_)(x dx C:d8)(mA:(Str->Option d6)):Prop where
 obj:h.get? x=some (VA C dx)
 ns:h.Ns1 dx mA
 ne:dx≠x
variable{dx:d8}{mA:(Str->T_ 0)}
open H in
def Fs{h:e_}(n:h.Ns1 dx mA):∃d,h.get? dx=a0 d/\∀m,PySem.W.lookIn m d=a0 (mA m):=by
 let⟨o,s,p,O,H,K,_,M⟩:=n;refine⟨o,O,λm=>?_⟩;let e:=M m;unfold nsFind findBy at e;rw[<-Array.find?_toList]at e;unfold PySem.W.lookIn;rw[H];dsimp only;split
 ·rename_i y q;rw[q]at e;show αR e
 ·rename_i q;rw[q]at e;let a:s.toList.any (·.refKey)=false:=by rw[List.any_eq_false];intro y Y;let⟨z,t,k⟩:=K y<|Array.mem_toList_iff.mp Y;simp[DictEntry.refKey,k]
  rw[if_neg (by rw[a];show xh)];show αR e
def CU.look{h:e_}{x C:d8}(I:CU h x dx C mA):∃o,PySem.W.InstAt h x (VA C dx) C (a0 o)/\∀n,PySem.W.lookIn n o=a0 (mA n):=
 let ⟨o,ho,hl⟩:=Fs I.ns
 ⟨o,⟨I.obj,rfl,rfl,ho⟩,hl⟩
variable{expr:Bool}{name:Str}{prog:f_}{v:d6}
def get_map{x:d8}{C:d8}(X:δv 0)(I:β0 mA)(g:Wv K C name=true)(z:PySem.W.hasDictIn K C=true)(a:Ue K (.ref C) name=a0 a7)(V:mA name=a0 v)(H:PySem.W.handedIn v=true)(h:Q v { s with toks:=s.toks+1}):
  cu (getAttr (.ref x) name expr) Q E s:=by
 let⟨o,J,l⟩:=I.look;show PySem.W.get_value X J (βz 0).1 (PySem.W.findObj_own z a rfl<|by rw[l,V]) H h
def GQ{x:d8}{C:d8}{f:d8}{pl:Sem Bool}{Q:d6×Xu 0->d7->Prop}(X:δv 0)(I:β0 mA)(g:Wv K C name=true)(H:Ue K (.ref C) name=a0 (a0 (.ref f)))(t:PySem.W.isFn K (.ref f)=true)(V:mA name=a7)(h:Q (.ref f,[.ref x]) s):
  cu (getMethod (.ref x) name pl) Q E s:=by
 let⟨o,J,l⟩:=I.look;show PySem.W.method_fn X J (βz 0).1 (βz 0).2 H (beq_iff_eq.mp t) (by change(PySem.W.lookIn name o).map _=δw 0;rw[l,V];rfl) h
def Ki{x:d8}{C:d8}{ns:yp 0}{Q:(Unit->d7->Prop)}(X:δv 0)(I:β0 mA)(r:Ue K (.ref C) "__setattr__" = a0 (a0<|.builtin "object.__setattr__"))(p:PySem.W.plainOver K C=true)(T:PySem.W.takerIn K C name=a0 a7)(t:PySem.W.hasDictIn K C=true)(q:PySem.Within mA ns)(hsz:ns.length<=w9)(h:∀z,CU z x dx C (λy=>if y=name then a0 v else mA y)->U9 dx s.heap z->Q () {s with heap:=z,toks:=s.toks+2}):
  cu (setAttr (.ref x) name v) Q E s:=by
 let⟨k,J,L⟩:=I.look;refine PySem.W.set_plain X J r<|PySem.W.osa_open X J p T λb=>?_;let⟨l,u,d⟩:=PySem.W.any_some t;refine vy<|v8<|vy<|vy<|wpAny_loadPart I.obj<|vy<|PySem.W.Looks.here (PySem.W.looks_clsIn X u) ?_;rw[d];refine v8<|vy<|v8<|vy ?_;refine wpAny_nsSet1 I.ns λz n H=>?_;let⟨O,S,e,o,D,c⟩:=n.count<|PySem.Within.cons name v q;refine vy (wpAny_lookBehind o (by rw[D];show pastItsLine_dict<|yd c (by rw[yw];omega)) ?_);show v8<|h _ ⟨(H.2 _<|zj I.ne).trans I.obj,n,I.ne⟩ H
variable{R:(Result->d7->Prop)}{kw:i_ (Str×d6)}{vs:Xu 0}
def GR{C:d8}{f:d8}(X:δv 0)(m:PySem.W.makesIn K C=true)(hi:Ue K (.ref C) "__init__" = a0 (a0 (.ref f)))(H:PySem.W.typeIn K (.ref f)=a0 (.type "function"))(h:codeAny (Q_ w) (A.under (.builtin "type.__call__" ⟨.ref C::vs,kw⟩)) (.call (.ref f) ⟨.ref (s.heap.objs.size+1)::vs,kw⟩) (PySem.W.InitBack (s.heap.objs.size+1) R)
   {s with heap:=(αS 0).push (VA C ((s).heap.objs.size))}):
  codeAny (Q_ w) A (.call (.ref C) ⟨vs,kw⟩) R s:=by
 show PySem.W.make_core (PySem.W.makes_of X m) (PySem.W.looks_findIn X hi) (λe=>PySem.W.bind_fn X e H) (.inl rfl) h
abbrev jU(f:Str)(v:V):i_ (Str×V)->i_ (Str×V)
 |[]=>[(f,v)]
 |(g,x)::r=>if g=f then(g,v)::r else(g,x)::Z5 r
def rZ(f g)(v:V):∀s,(Z5 s).lookup g=if g=f then a0 v else s.lookup g
 |[]=>by
  change Wy g [(f,v)]=_
  by_cases h:g=f
  ·let b:=beq_iff_eq.mpr h;simp[Wy,b,if_pos h]
  ·let b:=αq 0;simp[Wy,b,γR 0]
 |(k,x)::r=>by
  rw[show Z5 _=(if k=f then _::r else _::Z5 r) from rfl]
  by_cases H:k=f
  ·rw[if_pos H];by_cases h:g=k
   ·let b:=beq_iff_eq.mpr h;simp[Wy,b,if_pos<|h.trans H]
   ·let b:=αq 0;simp[Wy,b,if_neg (λe:g=f=>h<|e.trans H.symm)]
  ·rw[if_neg H];by_cases h:g=k
   ·let b:=beq_iff_eq.mpr h;simp[Wy,b,if_neg (λe:g=f=>H<|h.symm.trans e)]
   ·let b:=αq 0;simp[Wy,b];show rZ f g v r
def qU(f)(v:V):∀s,f∈(Z5 s).map (·.1)/\∀g,g∈s.map (·.1)->g∈(Z5 s).map (·.1)
 |[]=>⟨by simp[jU],λg h=>by simp at h⟩
 |(k,x)::r=>by
  let⟨i,I⟩:=qU f v r;rw[show Z5 _=(if k=f then _::r else _::Z5 r) from rfl]
  by_cases H:k=f
  ·rw[if_pos H];subst H;show⟨by simp,λg h=>by simpa using h⟩
  ·rw[if_neg H];refine⟨?_,λg h=>?_⟩
   ·show YI i
   ·rcases wu.mp h with e|e
    ·show wu.mpr (.inl e)
    ·show YI (I g e)
def sA(f)(v:V):∀s,(Z5 s).length<=s.length+1
 |[]=>by simp[jU]
 |(k,x)::r=>by
  let i:=sA f v r;rw[show Z5 _=(if k=f then _::r else _::Z5 r) from rfl]
  by_cases h:k=f
  ·rw[if_pos h,yw,yw];omega
  ·rw[γR 0,yw,yw];omega
def mI.some_of{v:V}{o:jh d6}(r:mI (a0 v) o):∃u,o=a0 u/\WV u:=by
 cases o with
 |none=>exact(r).elim
 |some u=>exact⟨u,rfl,r⟩
def mI.none_of{o:jh d6}(r:mI a7 o):o=a7:=by
 cases o with
 |none=>rfl
 |some u=>exact(r).elim
def Ft{v:V}(r:WV u):PySem.W.handedIn u=true:=by
 cases v with
 |non=>cases(r);rfl
 |bl b=>cases(r);rfl
 |int i=>let⟨t,e⟩:=(r);cases e;rfl
 |str x=>let⟨t,e⟩:=(r);cases e;rfl
 |byt b=>let⟨t,e⟩:=(r);cases e;rfl
 |flt b=>let⟨t,e⟩:=(r);cases e;rfl
 |ref a=>cases(r);rfl
 |ty n=>cases(r);rfl
section
variable{h:e_}{C:d8}{fs i8:i_ (Str×V)}
def tK(o:W2 h)(e:H a=a0 (.ins C dx fs)):∃m,CU h a dx C m/\(∀f,mI (Yf 0)<|m f)/\PySem.Within m (fs.map (·.1))/\fs.length<=1000/\H dx=a0 (.own a):=by
 let⟨d,z,N,b,m,n,r,q⟩:=(show Xw _ from o a _ e)
 show⟨m,⟨b,n,N⟩,r,q,z,d⟩
end
structure Cls(K:wc)(C:d8):Prop where
 pg:Wv K C Str.empty=true
 hd:PySem.W.hasDictIn K C=true
 po:PySem.W.plainOver K C=true
 sa:Ue K (.ref C) "__setattr__" = some (some (.builtin "object.__setattr__"))
def Cls.get{C:d8}(c:Cls K C)(f):Wv K C f=true:=c.pg
abbrev jG(K:wc)(C:d8)(f:Str):Prop:=Ue K (.ref C) f=a0 a7
def jG.taker{C:d8}{f:Str}(n:jG K C f):PySem.W.takerIn K C f=a0 a7:=by
 unfold PySem.W.takerIn;rw[show Ue K _ f=a0 a7 from n]
 rfl
structure CV(K:wc)(C:d8)(m:Str)(f:d8):Prop where
 at_:Ue K (.ref C) m=some (a0 (.ref f))
 fn:PySem.W.isFn K (.ref f)=true
 kp:U2 K (.ref f)=true
variable{b:Bool}{env:Env}
section
variable{σ:St}{C:d8}{fs:i_ (Str×V)}{f:Str}{v:V}
def uF(I:q_ s)(e:H a=a0 (.ins C dx fs))(c:Cls X.K C)(n:jG X.K C f)(l:Yf 0=a0 v)(h:∀u S,q_ S->WV u->Q u S):wpAny (b8 X) A (getAttr (.ref a) f b) Q E s:=by let⟨m,O,r,_,_,_⟩:=tK I.hok e;let⟨u,U,R⟩:=mI.some_of (by rw[<-l];show r f);show get_map I.kIn O (c.get f) c.hd n U (Ft R)<|h u _ (Xx 0) R
def uG{m:Str}{g:d8}{pl:Sem Bool}{Q:d6×Xu 0->d7->Prop}(I:q_ s)(e:H a=a0 (.ins C dx fs))(c:Cls X.K C)(k:CV X.K C m g)(l:fs.lookup m=a7)
  (h:Q (.ref g,[.ref a]) s):wpAny (b8 X) A (getMethod (.ref a) m pl) Q E s:=by
 let⟨M,O,r,_,_,_⟩:=tK I.hok e;show GQ I.kIn O (c.get m) k.at_ k.fn (mI.none_of (by rw[<-l];show r m)) h
def uH{y:V}{Q:(Unit->d7->Prop)}(I:q_ s)(e:H a=a0 (.ins C dx fs))(c:Cls X.K C)(n:jG X.K C f)(L:fs.length<1000)(R:P_ u)(h:∀S,a8 (YG<|.ins C dx<|jU f y fs) S->Q () S):wpAny (b8 X) A (setAttr (.ref a) f u) Q E s:=by
 let⟨m,O,r,i,_,t⟩:=tK I.hok e;refine Ki I.kIn O c.sa c.po n.taker c.hd i (by rw[wd,Uu];omega) λl x p=>h _ <|I.write (by rw[e];show UR) (.inr t) (λb q B z=>(p.2 b B).trans z) (let ⟨o,_,_,e',_⟩:=x.ns;⟨o,e'⟩) <|⟨by rw[aF O.ne];show t,?_,O.ne,x.obj,_,x.ns,λg=>?_,λg G=>?_⟩
 ·have:=sA f y fs;omega
 ·rw[rZ];by_cases q:g=f
  ·rw[if_pos q,if_pos q];show R
  ·rw[if_neg q,if_neg q];show r g
 ·by_cases q:g=f
  ·rw[q];show(qU f y fs).1
  ·refine(qU f y fs).2 g (i g λz=>G ?_)
   change(if g=f then a0 u else m g)=a7
   rw[if_neg q];show z
def Inv.made(I:q_ s):a8 (upd (t_ ((s).heap.objs.size)<|.own<|s.heap.objs.size+1) (s.heap.objs.size+1)<|.ins C ((s).heap.objs.size) [])
  {s with heap:=(αS 0).push (VA C<|(s).heap.objs.size)}:=by
 let E:(αS 0).get? ((s).heap.objs.size)=a0 _:=XO rfl;let x:((αS 0).push<|VA C<|(s).heap.objs.size).get? (s.heap.objs.size+1)=a0 (VA C<|(s).heap.objs.size):=by
  have:=we (αS 0) (o:=VA C<|(s).heap.objs.size) rfl
  rwa[zf]at this
 let w:(s.heap.push _).Ns _ (λ_=>a7):=⟨VS,#[],_,E,rfl,(λe h=>Xk<|by simp),λ_=>rfl⟩;let z:=I.laid (o:=.own<|s.heap.objs.size+1) (h':=s.heap.push _) (t':=s.toks) (λb u q=>W4 q) (wj _) ⟨_,E⟩;refine z.laid (o:=.ins C _ []) (λb u q=>W4 q) (Nat.le_of_eq<|zf _ _) ?_;let n:((s).heap.objs.size)≠((s).heap.objs.size)+1:=xj<|Vp _;refine⟨by rw[aF n,aJ],zk _,n,x,λ_=>a7,(Heap.Ns1.of_empty w).at λo q=>W4 q,λ_=>UR,λy Y=>absurd rfl Y⟩
def Kj{f:Str}(hb:V7 e f env (eval e env)=eval e env)(h:cu (eval e env) (λo S=>cu (getAttr o f true) Q E S) E s):cu (eval (.Attribute e f pos) env) Q E s:=Attribute_any_ h (by rw[arm_eval_Attribute,hb])
end
abbrev So(K:wc)(ta:TE)(f:Str):TE:=λσ H Q=>ta σ H λx H1=>∃a C dx fs v,x=.ref a/\H1 a=a0 (.ins C dx fs)/\Cls K C/\jG K C f/\Yf 0=a0 v/\Q v H1
abbrev Sq(K:wc)(ta tv:TE)(f:Str):TS:=λD σ H=>tv σ H λy H1=>ta σ H1 λx H2=>∃a C dx fs,x=.ref a/\H2 a=a0 (.ins C dx fs)/\Cls K C/\jG K C f/\fs.length<1000/\
 αQ (upd H2 a<|.ins C dx<|jU f y fs)
abbrev PR(X:Cx)(op:Operator)(rd:V->V->Hp->VK->Prop):Prop:=
 ∀(b9:List (d8×Obj))(s:d7)(σ:St)(H:Hp)(x y:V)(u v:d6)(Q:VK),q_ s->C_ u->P_ v->rd x y H Q->wpAny (b8 X) X.A (inplaceOp op u v) (O_ Q) X.xe s
abbrev Kk(K:wc)(ta tv:TE)(rd:V->V->Hp->VK->Prop)(f:Str):TS:=λD σ H=>ta σ H λx H1=>∃a C dx fs v,x=.ref a/\H1 a=a0 (.ins C dx fs)/\Cls K C/\jG K C f/\Yf 0=a0 v/\
 tv σ H1 λy H2=>rd v y H2 λz H3=>∃km i8,H3 a=a0 (.ins C km i8)/\i8.length<1000/\αQ (upd H3 a<|.ins C km<|jU f z i8)
def NA{f:Str}(he:N_ e ta)(hb:V7 e f X.env (xl 0)=xl 0):N_ (.Attribute e f pos) (So X.K ta f):=by refine λx s σ H Q I h=>Kj hb<|thn (he x s σ H _ I h) λu s1 w0=>?_;let⟨x,z,y,rx,a,C,dx,fs,v,ex,ea,c,n,l,q⟩:=w0;subst ex;obtain rfl:u=z8 a:=rx;show uF y ea c n l λu' s2 w ru=>⟨v,z,w,ru,q⟩
variable{tv:TE}{value:g_}
def NB{o:g_}{f:Str}(ha:N_ o ta)(hv:N_ value tv)(hs:WG value (a0<|.Attribute o f pos') pos.line X.env=Z4 0):PS X (.Assign [.Attribute o f pos'] value pos) (Sq X.K ta tv f):=by refine λx s σ H D I h=>plainObj_wpAny_Assign_Attribute (thn (hv x s σ H _ I h) λu s1 w0=>?_) hs;let⟨y,z,w,ry,q⟩:=w0;refine thn (ha x s1 σ z _ w q) λov s2 w0=>?_;let⟨x,r,v,rx,a,C,dx,fs,ex,ea,c,n,l,q2⟩:=w0;subst ex;obtain rfl:ov=z8 a:=rx;show uH v ea c n l ry λs3 t=>⟨σ,_,t,q2⟩
variable{fq:Pos}
def Fu{o:g_}{f:Str}{op:Operator}{rd:V->V->Hp->VK->Prop}(ha:N_ o ta)(hv:N_ value tv)(z:PR X op rd):PS X (.AugAssign (.Attribute o f fq) op value pos) (Kk X.K ta tv rd f):=by refine λx s σ H D I h=>wpAny_AugAssign_AttributeAny<|thn (ha x s σ H _ I h) λov s1 w0=>?_;let⟨x,w,r,rx,a,C,dx,fs,v,ex,ea,c,n,l,q⟩:=w0;subst ex;obtain rfl:ov=z8 a:=rx;refine uF r ea c n l λu s2 p ru=>thn (hv x s2 σ w _ p q) λw3 s3 w0=>?_;let⟨y,t,m,ry,q3⟩:=w0;refine thn (z x s3 σ t v y u w3 _ m ru ry q3) λw4 s4 w0=>?_;let⟨z,j,k,rz,km,i8,D,l',q4⟩:=w0;show uH k D c n l' rz λs5 i=>⟨σ,_,i,q4⟩
abbrev Sr:V->V->Hp->VK->Prop:=λx y H Q=>∃i j,x=.int i/\y=.int j/\Q (.int<|i+j) H
def NC:PR X .Add Sr:=by rintro p s z H x y u v Q I r R ⟨i,j,rfl,rfl,q⟩;let⟨t,rfl⟩:=(r);let⟨T,rfl⟩:=(R);show PyProof.Rows.iadd_int ⟨.int _,H,Xx 0,⟨_,rfl⟩,q⟩
section
variable{σ:St}{c:d6}
inductive qV(K:wc)(H:Hp):V->Value->Prop where
 |non:qV K H .non (.type "NoneType")
 |bl (x:Bool):qV K H (.bl x) (.type "bool")
 |int (i:Int):qV K H (.int i) (.type "int")
 |str (x:Str):qV K H (.str x) (.type "str")
 |flt (x:UInt64):qV K H (.flt x) (.type "float")
 |lst {a:Addr} {xs:i_ V} (e:H a=some (.lst xs)):qV K H (.ref a) (.type "list")
 |frz {a:Addr} {o:Obj} {xs:i_ V} (e:H a=some (.frz o (.lst xs))):qV K H (.ref a) (.type "list")
 |tup {a:Addr} {xs:i_ V} (e:H a=some (.tup xs)):qV K H (.ref a) (.type "tuple")
 |dK {a:Addr} {kvs:i_ (Key×V)} (e:H a=some (.dK kvs)):qV K H (.ref a) (.type "dict")
 |dT {a:Addr} {kvs:i_ (i_ Key×V)} (e:H a=some (.dT kvs)):qV K H (.ref a) (.type "dict")
 | ins {a C dx:Addr} {fs:i_ (Str×V)} (e:H a=some (.ins C dx fs)) (cl:Cls K C) (ha:Ue K (.ref C) "__class__" = some (some (.builtin "object.__class__")))
   (hn:PySem.W.specialIn K (.builtin "object.__class__") "__get__" = some (some (.builtin "getset_descriptor.__get__"))) (htk:PySem.W.takesIn K (.builtin "object.__class__")=some true)
   (hm:PySem.W.mroIn K C (.type "object")=some true):qV K H (.ref a) (.ref C)
def Fv{x:V}{t:d6}(I:q_ s)(r:C_ u)(Y:qV X.K H x t)(e:PySem.W.kitOne X.K t c=a0 b)(h:∀T,Q (.bool b) { s with toks:=T}):
  wpAny (b8 X) A (call (.builtin "isinstance") [u,c]) Q E s:=by
 cases Y with
 |non=>cases(r);show Ul PySem.W.kitx_none I.kIn UR e (λz=>nomatch z) h
 |bl y=>cases(r);show Ul PySem.W.kitx_bool I.kIn UR e (λz=>nomatch z) h
 |int i=>let⟨t,q⟩:=(r);cases q;show Ul PySem.W.kitx_int I.kIn UR e (λz=>nomatch z) h
 |str y=>let⟨t,q⟩:=(r);cases q;show Ul PySem.W.kitx_str I.kIn UR e (λz=>nomatch z) h
 |flt y=>let⟨t,q⟩:=(r);cases q;show Ul PySem.W.kitx_float I.kIn UR e (λz=>nomatch z) h
 | @lst a j v=>
  cases(show u=z8 a from r)
  let⟨_,_,n,_,m⟩:=(show Zp _ from I.hok a _ v)
  show Zq ⟨_,m,rfl⟩ e (λz=>nomatch z) h
 | @frz a B j v=>
  cases(r)
  let⟨_,_,_,n,_,m⟩:=(show Zp (.frz B _) from α8 v)
  show Zq ⟨_,m,rfl⟩ e (λz=>nomatch z) h
 | @tup a j v=>
  cases(show u=z8 a from r)
  let⟨_,_,_,p⟩:=(show Zp _ from I.hok a _ v)
  let⟨o,m,l,_⟩:=p;show γk ⟨o,m,l⟩ e (λz=>nomatch z) h
 | @dK a S v=>
  cases(show u=z8 a from r)
  let⟨_,_,U,_,p⟩:=(show Zp _ from I.hok a _ v)
  let⟨o,g,P,m,l,_⟩:=p;show γS ⟨o,m,l.1⟩ e (λz=>nomatch z) h
 | @dT a S v=>
  cases(show u=z8 a from r)
  let⟨_,_,j,_,o,g,P,m,l,_⟩:=(show Zp _ from I.hok a _ v)
  show γS ⟨o,m,l.1⟩ e (λz=>nomatch z) h
 | @ins a C d F v L f N k M=>
  cases(r)
  let⟨Z,O,_⟩:=tK I.hok v;let⟨D,J,_⟩:=O.look;show Ul (PySem.W.kitx_own (L.get _) L.hd f N k M) I.kIn J e (λz=>nomatch z) h
end
structure dX(k:Nat)(A:d_):Prop where
 hd:A.handled=none
 dp:A.depth+3*k+5<recursionLimit
 un:A.units+16*k+200<cLine
 gd:A.guards=some []
def dX.mono{k:Nat}(r:dX k A)(h:j<=k):dX j A:=⟨r.hd,by have:=r.dp;omega,by have:=r.un;omega,r.gd⟩
def dX.deeper{k:Nat}(r:dX (k+1) A)(env):dX k (A.deeper env):=⟨r.hd,by have:=r.dp;change A.depth+1+3*k+5<_;omega,by have:=r.un;change A.units+3+16*k+200<_;omega,r.gd⟩
def dX.in1{k:Nat}(r:dX (k+1) A):dX k A.in1:=⟨r.hd,by have:=r.dp;change A.depth+3*k+5<_;omega,by have:=r.un;change A.units+1+16*k+200<_;omega,r.gd⟩
def CW{C:d8}:(A.under<|.builtin "type.__call__" ⟨.ref C::us,kw⟩).depth=A.depth+1:=by first|rfl|simp
def CY{C:d8}:(A.under<|.builtin "type.__call__" ⟨.ref C::us,kw⟩).units=A.units+1:=by first|rfl|simp
def dX.make{k:Nat}(r:dX (k+1) A)(C)(us)(w):dX k (A.under<|.builtin "type.__call__" ⟨.ref C::us,w⟩):=⟨r.hd,by have:=r.dp;rw[CW];omega,by have:=r.un;rw[CY];omega,by have:=r.gd;simp[Around.under,Code.guards,Code.isGuard,guardIds,pushGuards,this]⟩
def dX.depth{k:Nat}(r:dX k A):A.depth<recursionLimit:=by have:=r.dp;omega
def dX.units{k:Nat}(r:dX k A):A.units+64<cLine:=by have:=r.un;omega
abbrev GS:TA:=λ_ H Q=>Q [] H
abbrev GT(ta:TE)(tr:TA):TA:=λσ H Q=>ta σ H λx H1=>tr σ H1 λxs H2=>Q (x::xs) H2
section
variable{t:TA}
def zT:PA X [] GS:=λ_ _ _ _ H Q I h=>Calls.spliced_nil ⟨[],H,I,.nil,h⟩
def tL(a:N_ e te)(R:δx t)(S:xq (e::es) X.env=(false,xl 0)::Mm 0:=by rfl):PA X (e::es) (GT te t):=by
 intro pos p s z H Q I h;rw[S]
 change W0 (spliced ((false,xl 0)::As _)) _ _ s
 refine Calls.spliced_cons<|thn (a p s z H _ I h) λu l w0=>?_;let⟨x,y,v,n,q⟩:=w0;refine thn (R pos p l z y _ v q) λU j w0=>?_;let⟨k,w,r,m,o⟩:=w0;show⟨x::k,w,r,.cons n m,o⟩
abbrev Ss(t:TA):TE:=λσ H Q=>t σ H λxs H1=>xs.length<=w9/\∀p,H1 p=a7->Q (.ref p) (upd H1 p<|.tup xs)
abbrev Su(t:TA):TE:=λσ H Q=>t σ H λxs H1=>xs.length<=w9/\∀p,H1 p=a7->Q (.ref p) (upd H1 p<|.lst xs)
def ND{x1}(h:δx t):N_ (.Tuple es x1 pos) (Ss t):=by refine λp s o H Q I w=>wpAny_Tuple_spliced (thn (h pos p s o H _ I w) λU S ⟨v,x,y,r,z,q⟩=>⟨by rw[<-r.length];show z,?_⟩);refine⟨.ref _,upd x _ _,y.laid (λb u e=>W4 e) (wj _) ?_,rfl,q _<|y.hok.fresh<|wj _⟩;show⟨z,U,r,⟨_,XO rfl,rfl,⟨_,rfl⟩,rfl⟩⟩
def NF(h:δx t):N_ (.List es pos) (Su t):=by refine λp s o H Q I w=>wpAny_List_spliced (thn (h pos p s o H _ I w) λU S ⟨v,x,y,r,z,q⟩=>⟨by rw[<-r.length];show z,?_⟩);refine⟨.ref _,upd x _ _,y.laid (λb u e=>W4 e) (wj _) ?_,rfl,q _<|y.hok.fresh<|wj _⟩;show⟨z,U,0,r,XO rfl⟩
end
@[reducible]noncomputable def Sp:=i_ V->Hp->VK->XK->Prop
@[reducible]noncomputable def CXT:=i_ Env->Hp->d7->XK->(d6->d7->Prop)
structure uI(P:f_)(w:fI)(K:wc)(mg:(Str->Option d6))(base:e_)(A:d_)(outer:i_ Env)(s:d7)(H:Hp):Prop where
 frames:A.frames=some outer
 mod:Mod K mg base
 bs:∀b o,base.get? b=some o->s.heap.get? b=some o/\H b=none
 bsz:base.objs.size<=((s).heap.objs.size)
 funs:s.heap.FunFrames base outer
 frf:∀b∈frs outer,H b=none
 hok:HOk P w H s.heap
 bare:AllBare s.gens
abbrev CE(outer:i_ Env)(P:f_)(w:fI)(H:Hp)(s:d7)(Q:VK)(u:d6)(s':d7):Prop:=
 ∃v H',s'.os=s.os/\αm 0/\Un (frs outer) [] H H' s.heap s'.heap/\HOk P w H' s'.heap/\WV u/\Q v H'
abbrev CR(CX:CXT)(outer:i_ Env)(P:f_)(w:fI)(H:Hp)(s:d7)(Q:VK)(E:XK)(r:Result)(s':d7):Prop:=
 match r with
 |.ok (.ret u)=>CE outer P w H s Q u s'
 |.ok _=>False
 |.error e=>γ4 e s'
structure cI(P:f_)(w:fI)(K:wc)(mg:(Str->Option d6))(base:e_)(CX:CXT)(k:Nat)(f:d8)(fd:UH)(ps:i_ Str)(sp:Sp):Prop where
 len:∀vs H Q E,sp vs H Q E->vs.length=ps.length
 run:∀(A:d_)(outer:i_ Env)(s:d7)(H:Hp)(args:Args)(us:i_ d6)(vs:i_ V)(Q:VK)(E:XK),dX k A->uI P w K mg base A outer s H->BindsTo s fd args (ps.zip us)->aI vs us->sp vs H Q E->
  codeAny (model P w) A (.call (.ref f) args) (CR CX outer P w H s Q E) s
variable{CX:CXT}{base:e_}{fd:UH}{mg:(Str->T_ 0)}{ps:yp 0}{sp:Sp}
def cI.imp{k:Nat}{f:d8}{ou:Sp}(F:W3 CX k f fd ps sp)(h:∀v H Q E,ou v H Q E->sp v H Q E):W3 CX k f fd ps ou:=⟨λv H Q E q=>F.len v H Q E<|h _ _ _ _ q,λA o s H a u v Q E r e b V S=>F.run A o s H a u v Q E r e b V<|h _ _ _ _ S⟩
variable{outer:i_ Env}
def uI.make(e:YR A outer s H)(C)(us)(k):
  YR (A.under<|.builtin "type.__call__" ⟨.ref C::us,k⟩) outer s H:=⟨by first|exact e.frames|(simpa using e.frames),e.mod,e.bs,e.bsz,e.funs,e.frf,e.hok,e.bare⟩
def uI.in1(e:YR A outer s H):
  YR A.in1 outer s H:=⟨e.frames,e.mod,e.bs,e.bsz,e.funs,e.frf,e.hok,e.bare⟩
section
variable{σ:St}
def Inv.env0(I:q_ s):β1 X.A X.stack s H:=⟨I.ok.frames,I.ok.mod,I.bs,yd I.ok.bsz I.sz,I.stack,I.stkFree,I.hok,I.bare⟩
def Inv.after{Q:VK}(I:q_ s)(h:CE X.stack X.prog X.w H s Q u s'):O_ Q u s':=by let⟨v,y,S,a,n,o,r,q⟩:=h;let⟨x,g,d,t,O⟩:=s';obtain rfl:O=s.os:=S;show⟨v,y,I.call n o a<|λb z=>β9<|by simp,r,q⟩
end
abbrev GU(sp:Sp)(cp:i_ V)(E:XK)(t:TA):TE:=λσ H Q=>t σ H λvs H1=>sp (vs++cp) H1 Q E
abbrev Mw(C:d8)(sp:Sp)(cp:i_ V)(E:XK)(t:TA):TE:=λσ H Q=>t σ H λvs H1=>∀x dx,H1 x=a7->H1 dx=a7->dx≠x->
 sp (.ref x::(vs++cp)) (upd (upd H1 dx<|.own x) x<|.ins C dx []) (λv H2=>v=.non/\Q (.ref x) H2) E
abbrev Binds(K:wc)(fd:UH)(ps:yp 0)(ds:Xu 0):Prop:=
 ∀(s:d7)(us:Xu 0),δv 0->(us++ds).length=ps.length->αr ⟨us,[]⟩ (ps.zip<|us++ds)
def Binds.all(h:∀u,u.length=ps.length->bindArgs fd ⟨u,[]⟩=pure (ps.zip u)):Binds K fd ps []:=λs u _ l=>by rw[Ua]at l⊢;show .of_eq<|h u l
abbrev pB(CX:CXT)(X:Cx)(E:XK):Prop:=∀(b9:List (d8×Obj))(σ:St)(H:Hp)(s:d7)(e:d6)(s':d7),q_ s->CX X.stack H s E e s'->X.xe e s'
section
variable{k:Nat}{f C:d8}{cp:i_ V}{ds:Xu 0}{E:XK}{m:Str}{p:Pos}{o:g_}{t:TA}
def zU{σ:St}{Q:VK}{vs:i_ V}(F:Yl 0)(z:dX k X.A)(hb:Yg 0)(d:aI cp ds)(x:δy E)(I:q_ s)(r:Z3 0)(h:sp (vs++cp) H Q E):wpAny (b8 X) X.A (call (.ref f) us) (O_ Q) X.xe s:=by
 let R:aI _ _:=r.append d;refine wpAny_call (WD (F.run X.A _ s H ⟨us,[]⟩ _ _ Q E z I.env0 (hb s us I.kIn (by rw[<-R.length];show F.len _ _ _ _ h)) R h) λr S q=>?_);cases r with
 |error e=>exact x b9 σ H s e S I q
 |ok l=>
  cases l with
  |ret u=>exact I.after q
  |next=>exact UK q
  |brk=>exact UK q
  |cont=>exact UK q
def Kl(F:Yl 0)(R:dX k X.A)(g:Yu x)(M:X.mg x=a0 (.ref f))(v:U2 X.K (.ref f)=true)(hb:Yg 0)(D:aI cp ds)(u:δy E)
  (a:PA X (e::es) t) (d:(x == ("__debug__" : Str))=false:=by decide) (y:xq (e::es) X.env=(false,xl 0)::Mm 0:=by rfl) (l:(As<|xq es X.env).any (·.1)=false:=by rfl):
  N_ (.Call (.Name x p) (e::es) [] pos) (GU sp cp E t):=by
 refine λi s n H Q I h=>Uv<|kK I g M ?_ d;refine βA v (thn (a pos i s n H _ I h) λU S w0=>?_) y l;let⟨V,j,z,r,q⟩:=w0;refine⟨z.kIn,?_⟩;show zU F R hb D u z r q
def GV(F:Yl 0)(r:dX k X.A)(g:Yu x)(M:X.mg x=a0 (.ref f))(z:U2 X.K (.ref f)=true)(hb:Yg 0)(D:aI cp ds)(y:δy E)
  (d:(x == ("__debug__" : Str))=false:=by decide):N_ (.Call (.Name x p) [] [] pos) (GU sp cp E GS):=by
 refine λi s v H Q I h=>Uv<|kK I g M ?_ d;show γ5 z<|zU (us:=[]) F r hb D y I .nil h
structure Mk(K:wc)(C f:d8):Prop where
 makes:PySem.W.makesIn K C=true
 init:Ue K (.ref C) "__init__" = some (a0 (.ref f))
 fn:PySem.W.isFn K (.ref f)=true
 kp:U2 K (.ref C)=true
def Bk{σ:St}{Q:VK}{vs:i_ V}(M:Mk X.K C f)(F:Yl 0)(c:dX (k+1) X.A)(hb:Yg 0)(D:aI cp ds)(b:δy E)(I:q_ s)(r:Z3 0)(h:∀x d,H x=a7->H d=a7->d≠x->sp (.ref x::(vs++cp)) (upd (t_ d<|.own x) x<|.ins C d []) (λv l=>v=.non/\Q (.ref x) l) E):
  wpAny (b8 X) X.A (call (.ref C) us) (O_ Q) X.xe s:=by
 let y:=h (s.heap.objs.size+1) _ (I.hok.fresh<|Nat.le_succ _) (I.hok.fresh<|wj _)<|xj<|Vp _;let z:=Inv.made (C:=C) I;let R:aI (V.ref (s.heap.objs.size+1)::(vs++cp)) (z8 _::(us++ds)):=.cons rfl<|r.append D;let g:(z8 (s.heap.objs.size+1)::us++ds).length=ps.length:=by let e:=R.length;rw[F.len _ _ _ _ y]at e;show e.symm
 refine wpAny_call (GR I.kIn M.makes M.init (beq_iff_eq.mp M.fn) (WD (F.run _ _ _ _ ⟨z8 _::us,[]⟩ (z8 _::(us++ds)) _ _ E (c.make C us [])
  (z.env0.make C us []) (hb _ (z8 _::us) z.kIn g) R y) λr S q=>?_))
 cases r with
 |error e=>exact b b9 σ _ _ e S z q
 |ok L=>
  cases L with
  |ret u=>let⟨v,n,j,Z,i,a⟩:=z.after q;subst i;show⟨Z,⟨V.ref _,n,j,rfl,a⟩⟩
  |next=>exact UK q
  |brk=>exact UK q
  |cont=>exact UK q
def Km(M:Mk X.K C f)(F:Yl 0)(R:dX (k+1) X.A)(g:Yu x)(v:X.mg x=a0 (.ref C))(hb:Yg 0)(D:aI cp ds)(u:δy E)
  (a:PA X (e::es) t) (d:(x == ("__debug__" : Str))=false:=by decide) (y:xq (e::es) X.env=(false,xl 0)::Mm 0:=by rfl) (l:(As<|xq es X.env).any (·.1)=false:=by rfl):
  N_ (.Call (.Name x p) (e::es) [] pos) (Mw C sp cp E t):=by
 refine λi s n H Q I h=>Uv<|kK I g v ?_ d;refine βA M.kp (thn (a pos i s n H _ I h) λU S w0=>?_) y l;let⟨V,j,z,r,q⟩:=w0;refine⟨z.kIn,?_⟩;show Bk M F R hb D u z r q
def GW(M:Mk X.K C f)(F:Yl 0)(r:dX (k+1) X.A)(g:Yu x)(z:X.mg x=a0 (.ref C))(hb:Yg 0)(D:aI cp ds)(y:δy E)
  (d:(x == ("__debug__" : Str))=false:=by decide):N_ (.Call (.Name x p) [] [] pos) (Mw C sp cp E GS):=by
 refine λi s v H Q I h=>Uv<|kK I g z ?_ d;show γ5 M.kp<|Bk (us:=[]) M F r hb D y I .nil h
end
structure pT(N P:i_ Str)(sc:Scope):Prop where
 kind:sc.kind=.function
 co:sc.isCoroutine=false
 gen:sc.isGenerator=false
 nd:N.Nodup
 pre:N.take P.length=P
 par:∀x∈P,sc.names.lookup x=some .local\/sc.names.lookup x=some .cell
 nofree:∀y∈sc.names,y.2≠.free
def xQ{kindOf:Str->jh NameKind}{x:Str}:∀{binds:i_ (Str×d6)}{m:(Str->T_ 0)},(∀v,(x,v)∉binds)->βS binds m x=m x
 |[],_,_=>rfl
 |(n,v)::r,m,h=>by
  unfold bindL;rw[xQ λw hw=>h w<|wb _ hw];split
  ·have:x≠n:=by rintro rfl;show h v wa
   simp[this]
  ·rfl
def xR{kindOf:Str->jh NameKind}{x:Str}:∀{binds:i_ (Str×d6)}{m:(Str->T_ 0)},(∀v,(x,v)∉binds)->βT binds m x=m x
 |[],_,_=>rfl
 |(n,v)::r,m,h=>by
  unfold bindC;rw[xR λw hw=>h w<|wb _ hw];split
  ·rfl
  ·have:x≠n:=by rintro rfl;show h v wa
   simp[this]
def xU{kindOf:Str->jh NameKind}{x:Str}{v:d6}:∀{P:yp 0}{vs:Xu 0}{i:Nat}{m:(Str->T_ 0)},P.Nodup->P[i]?=a0 x->vs[i]?=a0 v->kindOf x=a0 .local->
  βS (P.zip vs) m x=a0 v
 |[],_,_,_,_,h,_,_=>by simp at h
 |_::_,[],_,_,_,_,h,_=>by simp at h
 |p::P,w::vs,0,m,n,H,z,k=>by
  simp at H z;subst H;subst z
  change βS ((p,w)::P.zip vs) m p=_
  unfold bindL;rw[xQ λv V=>(z7.mp n).1 (List.of_mem_zip V).1,if_pos k];simp
 |p::P,w::vs,i+1,m,n,H,z,k=>by
  change βS ((p,w)::P.zip vs) m x=_
  show xU (z7.mp n).2 (cA H) (cA z) k
def xW{kindOf:Str->jh NameKind}{x:Str}{v:d6}:∀{P:yp 0}{vs:Xu 0}{i:Nat}{m:(Str->T_ 0)},P.Nodup->P[i]?=a0 x->vs[i]?=a0 v->kindOf x≠a0 .local->
  βT (P.zip vs) m x=a0 v
 |[],_,_,_,_,h,_,_=>by simp at h
 |_::_,[],_,_,_,_,h,_=>by simp at h
 |p::P,w::vs,0,m,n,H,z,k=>by
  simp at H z;subst H;subst z
  change βT ((p,w)::P.zip vs) m p=_
  unfold bindC;rw[xR λv V=>(z7.mp n).1 (List.of_mem_zip V).1,if_neg k];simp
 |p::P,w::vs,i+1,m,n,H,z,k=>by
  change βT ((p,w)::P.zip vs) m x=_
  show xW (z7.mp n).2 (cA H) (cA z) k
abbrev start(N:yp 0)(vs:i_ V):St:=vs.map a0++Wc (N.length-vs.length) a7
abbrev wV(CX:CXT)(P:f_)(w:fI)(K:wc)(mg:(Str->T_ 0))(base:e_)(N:yp 0)(qual:Str)(scope:Scope)(f:d8)(cd:d6)(A:d_)(outer:i_ Env)(s:d7)(H:Hp)(E:XK):Cx where
 prog:=P
 w:=w
 K:=K
 mg:=mg
 base:=base
 A:=A.deeper<|envOfC qual scope ((s).heap.objs.size) f cd
 N:=N
 s₀:=s
 H₀:=H
 env:=XU ((s).heap.objs.size) f cd
 outer:=outer
 stack:=XU ((s).heap.objs.size) f cd::outer
 ex:=[]
 calm:=true
 fn:=λ_=>true
 pn:=[]
 xe:=λe s'=>wpAny (model P w) (A.deeper<|envOfC qual scope ((s).heap.objs.size) f cd) (leaving (XU ((s).heap.objs.size) f cd) e) (λ_ da=>γ4 e da) (λe' da=>γ4 e' da) s'
variable{sc:Scope}
def Bl(h:A7 0=a0 .cell):∃c,(Um n sc.names []).lookup x=a0 c:=by show y4.mp<|PySem.W.cellsFrom_some _ n []<|.inl h
variable{cd:d6}{qual:Str}{s1:d7}{scope:Scope}
def Fw{f:d8}{E:XK}{vs:i_ V}(S:pT N ps scope)(D:A.handled=a7)(o:YR A outer s H)(X:vs.length=ps.length)(r:Z3 0)(x:InCallC s ((s).heap.objs.size) (bindL (XU ((s).heap.objs.size) f cd).kindOf (ps.zip us) λ_=>a7) (Um (s.heap.objs.size+1) scope.names []) (bindC (XU ((s).heap.objs.size) f cd).kindOf (ps.zip us) λ_=>a7) s1):
  Inv (I_ cd A outer s H E) [] (start N vs) H s1:=by
 let L:ps.length<=N.length:=by have:=Y0 S.pre;rw[ya]at this;omega
 let⟨l,T,rfl,j⟩:=x.done;let n:∀b,b∉(I_ cd A outer s H E).ex:=λb z=>absurd (show b∈([]:i_ d8) from z) (by simp)
 refine⟨⟨o.mod,S.kind,rfl,rfl,wj _,λy z c l t=>?_,λy Y=>?_,λy c _ h=>?_,λ_=>D,Around.frames_deeper o.frames,.inr ⟨rfl,rfl⟩,λb z=>β9 (n b),o.bs,o.bsz,λb _ _=>n b,λb z=>β9 (n b),o.funs,o.frf⟩,
  rfl,o.bare,Un.kept j,⟨_,x.toInCall.ns,λi y v l t Z=>?_⟩,λy c h=>⟨_,x.cell y c h⟩,o.hok.fresh (wj _),λy c h=>?_,λp m=>absurd (show p∈([]:i_ _) from m) (by simp),o.hok.kept j,?_⟩
 ·show name_of_addr x.apart (V8 l) (V8 t)
 ·rcases Y with Y|Y
  ·show Bl Y
  ·show absurd rfl (S.nofree _<|V8 Y)
 ·show zi (x.above y c<|V8 h)
 ·let I:i<vs.length:=by
   unfold start at t;by_cases I:i<vs.length
   ·show I
   ·rw[wz<|cA I]at t;rw[List.getElem?_replicate]at t;split at t <;> cases t
  let g:vs[i]?=a0 v:=by
   unfold start at t;rw[xc<|cA I,xf]at t;cases e:vs[i]? with
   |none=>rw[e]at t;cases t
   |some a=>rw[e]at t;cases t;rfl
  let⟨u,U,R⟩:=r.get g;let m:ps[i]?=a0 y:=by rw[<-S.pre,List.getElem?_take_of_lt ⋯];show l
  let d:ps.Nodup:=by rw[<-S.pre];show S.nd.sublist<|List.take_sublist _ _
  refine⟨u,R,?_⟩;rcases S.par y (ye m) with k|k
  ·show .inl ⟨k,xU d m U k⟩
  ·let⟨c,e⟩:=Bl k;refine .inr ⟨.inl k,c,e,?_⟩;let q:=x.cell y c e;rw[xW d m U (by change scope.names.lookup y≠_;rw[k];decide)]at q;show q
 ·show o.hok.fresh (zi<|x.above y c<|V8 h)
 ·unfold start
  change _=N.length
  rw[wq,wd,List.length_replicate];omega
variable{an od:jh d8}{cdv ct doc pm:d6}{osl:Array (T_ 0)}{params:Arguments}
def PU{k:Nat}{f:d8}{body:i_ h_}{dV kV oc:d6}(lk:K.lookup f=a0 ⟨oc,od,.func (Zr ct),osl⟩)(c:WM K cdv qual=true)(S:pT N ps scope)(L:∀m H Q E,sp m H Q E->m.length=ps.length)(h:∀(A)(O)(s)(H)(m)(Q)(E),dX k (A.deeper (XU ((s).heap.objs.size) f cdv))->sp m H Q E->
   ∃t,PSs (δc E) body t/\t { nx:=λ_ p=>Q .non p,rt:=Q} (start N m) H):
  W3 CX (k+1) f (Zr ct) ps sp:=by
 refine⟨L,λA O s H G us m Q E R j B r g=>?_⟩;let X:K.In _:=j.mod.kin.keeps λb o e=>(j.bs b o e).1;let M:=j.mod.nolimit.keeps λb o e=>(j.bs b o e).1;let i:∀y∈ps.zip us,scope.names.lookup y.1=a0 .local\/(scope.names.lookup y.1=a0 .cell/\((Um (s.heap.objs.size+1) _ []).lookup y.1).isSome=true):=λ⟨n,v⟩ hy=>by
  rcases S.par n (List.of_mem_zip hy).1 with q|q
  ·show .inl q
  ·show .inr ⟨q,PySem.W.cellsFrom_some _ _ _<|.inl q⟩
 refine codeAny_call_function R.depth (X _ _ lk) rfl S.co S.gen rfl (PySem.W.codeRec_of X c)<|B _ _ _ _ ?_;refine wpAny_newFunctionEnv_cells S.kind i λY T Z x=>?_;subst T;refine⟨M.keeps x.toInCall.keep,codeAny_func ?_⟩;let⟨t,C,D⟩:=h A O s H m Q E (R.deeper _) g;let I:Inv (δc E) [] _ H Z:=Fw S R.hd j (L _ _ _ _ g) r x;refine U8 (C [] Z _ H _ I D) (λU a l=>?_) λe a l=>l;let F:∀{z:St}{p:Hp}{v:V}{u:d6},Inv (δc E) [] z p a->WV u->Q v p->CE O P w H s Q u a:=
  λ{z p v u} J d q=>⟨v,p,J.os,J.bare,J.base,J.hok,d,q⟩
 cases U with
 |ret u=>let⟨v,z,p,J,d,q⟩:=l;show F J d q
 |next=>let⟨z,p,J,q⟩:=l;show F (v:=V.non) J rfl q
 |brk=>let⟨_,_,_,q⟩:=l;show UK q
 |cont=>let⟨_,_,_,q⟩:=l;show UK q
variable{T:String}
section
variable{p:Pos}{t:TA}{id:String}{r:i_ V->Hp->VK->Prop}
abbrev tCB(r:i_ V->Hp->VK->Prop)(t:TA):TE:=λσ H Q=>t σ H λvs H1=>r vs H1 Q
def GX(c:δu (.builtin id) r)(g:Yu x)(m:X.mg x=a7)(v:Vv x=a0 (.builtin id))(a:PA X (e::es) t)(n:x≠"__name__" := by decide)(d:(x == ("__debug__" : Str))=false:=by decide)
  (E:xq (e::es) X.env=(false,xl 0)::Mm 0:=by rfl) (l:(As<|xq es X.env).any (·.1)=false:=by rfl):N_ (.Call (.Name x p) (e::es) [] pos) (tCB r t):=by
 refine λi s z H Q I h=>Uv<|jF I g m v ?_ n d;refine PyProof.Rows.callWith_builtin1 (thn (a pos i s z H _ I h) λu S w0=>?_) E l;let⟨V,y,w,R,q⟩:=w0;show c i S z y V u Q w R q
def Fx(c:δu (.type T) r)(g:Yu x)(m:X.mg x=a7)(v:Vv x=a0 (.type T))(a:PA X (e::es) t)(n:x≠"__name__" := by decide)(d:(x == ("__debug__" : Str))=false:=by decide)
  (E:xq (e::es) X.env=(false,xl 0)::Mm 0:=by rfl) (l:(As<|xq es X.env).any (·.1)=false:=by rfl):N_ (.Call (.Name x p) (e::es) [] pos) (tCB r t):=by
 refine λi s z H Q I h=>Uv<|jF I g m v ?_ n d;refine UA (thn (a pos i s z H _ I h) λu S w0=>?_) E l;let⟨V,y,w,R,q⟩:=w0;show c i S z y V u Q w R q
end
end _L
namespace HT
open PySem PyProof.Rows
variable{A:d_}{E Q:(d6->d7->Prop)}{prog:f_}{s:d7}{vs ws:Xu 0}{w:fI}
def cat_tup{t b:d8}(ht:αo t vs.toArray)(hb:αo b ws.toArray)(hv:vs≠[])(h1:ws=[]->Q (.ref t) s)(h2:ws≠[]->Q (.ref<|(s).heap.objs.size) {s with heap:=s.heap.push {cls:=.type "tuple",data:=.seq (vs++ws).toArray} })(hsz:vs.length+ws.length<=w9):cu (UO .Add (.ref t)<|.ref b) Q E s:=by
 let⟨⟨cls,dd,data,sl⟩,ho,hc,n,hd⟩:=id ht;let⟨⟨sj,kh,data2,kg⟩,i9,e,n2,n⟩:=id hb;simp only at hc hd e n;subst hc hd e n;let e:vs.toArray++ws.toArray=(vs++ws).toArray:=by simp
 by_cases hw:ws=[]
 ·show concat_meets ⟨_,ho,rfl⟩ ⟨_,i9,rfl⟩ noFill_tuple_add seq_tuple_add PySem.F.slot_tuple_add PySem.F.entry_tuple_add (Zs _)
   (tuple_addW1 t b _ _ n n2 dd kh sl kg (cA hv)<|by simp[hw]) ⟨ho,i9,h1 hw⟩
 ·refine concat_meets ⟨_,ho,rfl⟩ ⟨_,i9,rfl⟩ noFill_tuple_add seq_tuple_add PySem.F.slot_tuple_add PySem.F.entry_tuple_add (Zs _)
   (tuple_addW2 t b _ _ n n2 dd kh sl kg (cA hv) (cA hw) (by rw[w6];show hsz)) ⟨ho,i9,?_⟩
  rw[e];show h2 hw
abbrev sIx(n d:Nat):WS 0->Nat
 |none=>d
 |some v=>if v<0 then(v+(n:Int)).toNat else min v.toNat n
def NG(n d)(H:d<=n)(o):sIx n d o<=n:=by
 cases o with
 |none=>exact H
 |some v=>
  change(if v<0 then(v+(n)).toNat else min _ n)<=n
  by_cases h:v<0
  ·rw[if_pos h];omega
  ·rw[γR 0];show Nat.min_le_right _ _
def Ea(v:Int)(n d:Nat):(if v<0 then max (v+(n)) 0 else min v (n))=((sIx n d (a0 v):Nat):Int):=by
 change(if v<0 then max (v+(n)) 0 else min v (n))=(((if v<0 then(v+(n)).toNat else min _ n):Nat):Int)
 by_cases h:v<0
 ·simp only[if_pos h];omega
 ·simp[γR 0];omega
def CZ(lo hi)(n:Nat):α9 (n)=(((sIx n 0 lo):Int),((sIx n n hi):Int)):=by
 refine Prod.ext ?_ ?_
 ·cases lo with
  |none=>rfl
  |some v=>exact Ea v n 0
 ·cases hi with
  |none=>rfl
  |some v=>exact Ea v n n
def D1(i j:Nat):VM (i) (j) 1=j-i:=by
 unfold VM;let h:(1:Int)>0:=⋯;simp[h];split <;> omega
variable{o:WS 0}{v:d6}
def uJ{Q:WS 0->d7->Prop}(p:IsPart v o)(h:Q o s):cu (Builtin.Slice.slicePartIndex v) Q E s:=by
 cases p with
 |none=>exact slicePart_none h
 |int i t=>exact slicePart_int h
variable{hi:WS 0}{n:Nat}{sl:d8}{vl vu:d6}
def sliceApplied_gen{lo:WS 0}{Q:Int×Int×Nat->d7->Prop}(H:Yx vu .none)(l:IsPart vl lo)(p:IsPart vu hi)(h:Q (((sIx n 0 lo):Int),1,sIx n n hi-sIx n 0 lo) s):cu (Builtin.Slice.sliceApplied (.ref sl)<|pure<|n) Q E s:=by
 let⟨O,o,c,d⟩:=id H;refine vy<|vy<|Ui o d (x:=vl) rfl<|vy<|Ui o d (x:=vu) rfl<|vy<|Ui o d (x:=.none) rfl<|v8 ?_;refine vy<|slicePart_none ?_;refine vy<|uJ l<|vy<|uJ p<|vy<|v8 ?_
 change W0 (match α9 (n) with|(lo,hi)=>pure (lo,(1:Int),VM lo hi 1)) _ _ s
 rw[CZ lo hi n]
 change W0 (pure (((sIx n 0 lo):Int),(1),VM ((sIx n 0 lo):Int) ((sIx n n hi):Int) 1)) _ _ s
 rw[D1];show v8 h
def GY(xs:y_ 0)(i k:Nat):((zo k).filterMap λ(m:Nat)=>xs[((i:Int)+(m)*1).toNat]?).toArray=((xs.toList.drop i).take k).toArray:=by
 let e:(λ(m:Nat)=>xs[((i:Int)+(m)*1).toNat]?)=λm=>xs[i+m]?:=by
  funext m;have:((i:Int)+(m)*1).toNat=i+m:=⋯;rw[this]
 rw[e];have:=pick_run xs i k;rw[List.filterMap_map]at this;let z:((λx=>xs[x]?)∘λx=>i+x)=λm=>xs[i+m]?:=rfl;rw[z]at this;rw[this]
variable{items:y_ 0}
def getItem_tuple_cut{t:d8}{lo:WS 0}(ht:αo t items)(hs:Yx vu .none)(pl:IsPart vl lo)(pu:IsPart vu hi)(hw:¬ (D_ 0 lo=0/\αe hi=items.size))(h:Q (.ref<|(s).heap.objs.size) {s with heap:=s.heap.push {cls:=.type "tuple",data:=.seq ((items.toList.drop<|sIx items.size 0 lo).take<|sIx items.size items.size hi-D_ 0 lo).toArray} })(hsz:items.size<=w9):cu (getItem (.ref t)<|.ref sl) Q E s:=by
 let dr:sizeOk (.seq ((items.toList.drop<|sIx items.size 0 lo).take<|sIx items.size items.size hi-D_ 0 lo).toArray):=by
  change((items.toList.drop<|sIx items.size 0 lo).take<|sIx items.size items.size hi-D_ 0 lo).toArray.size<=w9
  rw[w6,ya,yx,Array.length_toList];omega
 let hj:αe hi<=items.size:=NG _ _ (wj _) hi;let⟨os,u5,qd,hds⟩:=id hs;let vx:s.TypeIs (.ref sl) "slice" := ⟨os,u5,qd⟩;unfold getItem
 try with_reducible refine Io ?_
 first|refine vy (v8 ?_)|skip
 refine vy (wpAny_sequenceKey ht.typeIs (by decide) ?_);refine vy (y0 (name:=xm "__getitem__") ht.typeIs Ub
  (zd Ub ht.typeIs entry_tuple_getitem ?_ (args_tuple_getitem _ _)))
 change W0 (Wt (.ref t) >>= _) _ _ s
 refine vy<|tupleItemsOf_ ht ?_;refine vy<|wpAny_typeOf vx ?_;rw[if_pos<|by decide];refine vy<|sliceApplied_gen hs pl pu ?_;let t8:¬ ((((sIx items.size 0 lo:Nat):Int) == 0&&(1:Int) == 1&&(αe hi-D_ 0 lo) == items.size)=true):=by intro q;rw[yq,yq]at q;let q1:((sIx items.size 0 lo:Nat):Int)=0:=eq_of_beq q.1.1;let q2:αe hi-D_ 0 lo=items.size:=eq_of_beq q.2;show hw ⟨⋯,⋯⟩
 change W0 (if(((sIx items.size 0 lo:Nat):Int) == 0&&(1:Int) == 1&&(αe hi-D_ 0 lo) == items.size)=true then _ else _) _ _ s
 rw[if_neg t8,GY]
 first
  |exact vy (m:=VT _) (xy (v8 ⟨_,rfl,v8 h⟩) dr)
  |exact vy (m:=VT _) (xy (vy<|v8<|v8 ⟨_,rfl,v8 h⟩) dr)
  |exact vy (vy (m:=VT _)<|xy (v8<|v8 ⟨_,rfl,v8 h⟩) dr)
  |exact vy (vy (m:=VT _)<|xy (v8 ⟨_,rfl,v8 h⟩) dr)
end HT
namespace _L
@[reducible]noncomputable def TO:=St->Hp->(WS 0->Hp->Prop)->Prop
abbrev PO(X:Cx)(e:jh g_)(t:TO):Prop:=
 ∀(b9:List (d8×Obj))(s:d7)(σ:St)(H:Hp)(Q:WS 0->Hp->Prop),q_ s->t σ H Q->
  wpAny (b8 X) X.A (evalPart e X.env) (λu s'=>∃o H',β5 s'/\IsPart u o/\Q o H') X.xe s
abbrev Kn:TO:=λ_ H Q=>Q a7 H
variable{ns:Zg 0}
def intsAre_of:∀{us:Xu 0},aI (Yc 0) us->IntsAre us ns:=by
 induction ns with
 |nil=>intro us r;rw[List.map_nil]at r;cases r;show .nil
 |cons n ns i=>
  intro us r;cases r with
  |cons R z=>let⟨t,e⟩:=R;subst e;show .cons n t<|i z
variable{X:Cx}{e:g_}{p2 pos:Pos}{te:TE}{us:Xu 0}
section
variable{lo hi:jh g_}{tl th:TO}
def Ko:PO X a7 Kn:=by show λp s z H Q I h=>v8 ⟨a7,H,I,.none,h⟩
abbrev SlR(X:Cx)(r:V->WS 0->WS 0->Hp->VK->Prop):Prop:=
 ∀(b9:List (d8×Obj))(s:d7)(σ:St)(H:Hp)(x:V)(v vl vu:d6)(lo hi:WS 0)(sl:d8)(Q:VK),q_ s->C_ v->Yx vu .none->IsPart vl lo->IsPart vu hi->r x lo hi H Q->
  ∃T id,typeLookup (.type T) "__getitem__" = pure (a0<|.builtin id)/\δe T/\wpAny (b8 X) X.A (getItem v<|.ref sl) (O_ Q) X.xe s
def SlR.or{r r':V->WS 0->WS 0->Hp->VK->Prop}(h:γ6 r)(h':γ6 r'):γ6 (λx o i H Q=>r x o i H Q\/r' x o i H Q):=by
 intro p s y H x v z U o i L Q I R S l u q;rcases q with q|q
 ·show h p s y H x v z U o i L Q I R S l u q
 ·show h' p s y H x v z U o i L Q I R S l u q
abbrev tSl(r:V->WS 0->WS 0->Hp->VK->Prop)(te:TE)(tl th:TO):TE:=λσ H Q=>te σ H λx H1=>tl σ H1 λl H2=>th σ H2 λu H3=>r x l u H3 Q
def GZ{r:V->WS 0->WS 0->Hp->VK->Prop}(R:γ6 r)(E:N_ e te)(f:PO X lo tl)(c:PO X hi th):N_ (.Subscript e (.Slice lo hi a7 p2) pos) (tSl r te tl th):=by
 refine λp s z H Q I h=>Subscript_<|thn (α7 h) λv N w0=>?_;let⟨x,t,n,O,Z⟩:=w0;refine wpAny_Slice<|thn (f p N z t _ n Z) λL M w0=>?_;let⟨l,o,m,P,Y⟩:=w0;refine thn (c p M z o _ m Y) λU S w0=>?_;let⟨u,y,k,a,W⟩:=w0;refine v8 ?_;let j:Xd p z y { S with heap:=S.heap.push {cls:=.type "slice",data:=.fields #[L,U,.none]} }:=k.kept λb B q=>W4 q;let⟨T,D,i,d,g⟩:=R p { S with heap:=S.heap.push {cls:=.type "slice",data:=.fields #[L,U,.none]} } z y x v L U l u S.heap.objs.size Q j O (Heap.IsSliceOf.new ..) P a W
 change wpAny (model _ X.w) X.A (subscriptTail e _ v<|.ref _) _ X.xe { S with heap:=S.heap.push {cls:=.type "slice",data:=.fields #[L,U,.none]} }
 show tail_any (ops:=[.ref _,v]) d i g rfl
abbrev Fy(xs:i_ V)(lo hi:WS 0):i_ V:=(xs.drop<|HT.sIx xs.length 0 lo).take<|HT.sIx xs.length xs.length hi-X5 0 lo
def sD(xs)(lo hi):(Fy xs lo hi).length<=xs.length:=by unfold Fy;rw[ya,yx];omega
abbrev PY(K:wc):V->WS 0->WS 0->Hp->VK->Prop:=λx lo hi H Q=>∃a xs,x=.ref a/\WW a xs/\
 ¬ (X5 0 lo=0/\X5 xs.length hi=xs.length)/\∀p,H p=a7->Q (.ref p) (t_ p<|.tup<|Fy xs lo hi)
def NH:γ6 (PY X.K):=by
 rintro p s m H x v V n O h L Q I R y P U ⟨a,S,rfl,u,w,q⟩;cases R
 let⟨i,r,t,z⟩:=I.tuple u;let l:i.toArray.size=S.length:=by rw[w6];show r.length.symm
 refine⟨"tuple",_,Ub.lookup,t.typeIs,?_⟩;refine HT.getItem_tuple_cut t y P U (by rw[l];show w) ?_ (by rw[l];show z);rw[l];refine⟨.ref _,_,I.laid (λb o q=>W4 q) (wj _) ?_,rfl,q _<|I.hok.fresh<|wj _⟩;show⟨yd (sD S O h) z,_,(r.drop<|HT.sIx _ 0 O).take<|HT.sIx _ _ h-HT.sIx _ 0 O,sY.new _ _⟩
abbrev Mx(K:wc):R2:=λx y H Q=>∃a b xs ys,x=.ref a/\y=.ref b/\WW a xs/\WW b ys/\xs≠[]/\xs.length+ys.length<=w9/\
 (ys=[]->Q (.ref a) H)/\(ys≠[]->∀p,H p=a7->Q (.ref p) (t_ p<|.tup<|xs++ys))
def aI.nil_iff{xs:i_ V}(r:Yv us):us=[]↔xs=[]:=by
 cases r with
 |nil=>simp
 |cons _ _=>simp
def Kr:A6 (UO .Add) (Mx X.K):=by
 rintro p s k H x y v u Q I m Y ⟨a,b,S,l,rfl,rfl,A,B,t,Z,o,n⟩;cases m
 cases Y
 let⟨T,R,P,_⟩:=I.tuple A;let⟨i,r,j,_⟩:=I.tuple B;refine HT.cat_tup P j (λz=>t<|R.nil_iff.mp z) (λz=>⟨.ref a,H,I,rfl,o<|r.nil_iff.mp z⟩) (λz=>?_) (by rw[<-R.length,<-r.length];show Z);refine⟨.ref _,_,I.laid (λb O q=>W4 q) (wj _) ?_,rfl,n (λw=>z<|r.nil_iff.mpr w) _<|I.hok.fresh<|wj _⟩;show⟨by rw[wq];show Z,_,R.append r,sY.new _ _⟩
end
abbrev ixN(n:Nat)(i:Int):YJ 0:=if 0<=i then(if i<n then a0 i.toNat else a7) else if -(n:Int)<=i then a0 (i+n).toNat else a7
abbrev atI{α:Type}(xs:ZH 0)(i:Int):jh α:=(δz i).bind λj=>xs[j]?
variable{j n:Nat}
def Eb{i:Int}(h:ixN n i=a0 j):seqIndex? i n=a0 j/\j<n/\-(n)<=i/\i<n:=by
 unfold ixN at h;by_cases z:0<=i
 ·rw[YS 0]at h;by_cases H:i<n
  ·rw[if_pos H]at h;let e:=yi h;show⟨by rw[seqIndex_of z H,e],⋯,⋯,H⟩
  ·rw[if_neg H]at h;cases h
 ·rw[Y7 0]at h;by_cases H:-(n)<=i
  ·rw[if_pos H]at h;let e:=yi h;show⟨by rw[seqIndex_neg ⋯ H,e],⋯,H,⋯⟩
  ·rw[if_neg H]at h;cases h
def zV{α:Type}{xs:ZH 0}{i:Int}{v:α}(h:YT i=a0 v):∃j,seqIndex? i xs.length=a0 j/\xs[j]?=a0 v/\j<xs.length/\-(xs.length:Int)<=i/\i<xs.length:=by
 unfold atI at h;cases e:ixN _ i with
 |none=>rw[e]at h;cases h
 |some j=>rw[e]at h;let⟨H,z,y,x⟩:=Eb e;show⟨j,H,h,z,y,x⟩
abbrev Ec(b:g_):Prop:=∀o i,subscripted b false o i=operate [o,i] (getItem o i)
abbrev IxR(X:Cx)(r:R2):Prop:=
 ∀(value slice:g_)(b9:List (d8×Obj))(s:d7)(σ:St)(H:Hp)(x y:V)(v u:d6)(Q:VK),q_ s->C_ v->P_ u->δt Q->
  subscripted slice false v u=operate [v,u] (getItem v u)->wpAny (b8 X) X.A (subscriptTail value slice v u) (O_ Q) X.xe s
abbrev MtR(X:Cx)(id:String)(r:V->i_ V->Hp->VK->Prop):Prop:=
 ∀(b9:List (d8×Obj))(s:d7)(σ:St)(H:Hp)(x:V)(xs:i_ V)(v:d6)(us:Xu 0)(Q:VK),q_ s->C_ v->Yv us->r x xs H Q->
  wpAny (b8 X) X.A (call (.builtin id) (v::us)) (O_ Q) X.xe s
variable{r':R2}{ta:TE}{H:Hp}{ay its:Xu 0}{b9:List (d8×Obj)}{s:d7}{T:String}{v:d6}{ab apos:Pos}{es:i_ g_}{name:Str}
section
variable{a b:g_}{tb:TE}
def IxR.or{r:R2}(h:γ7 r)(h':γ7 r'):γ7 (λx y H Q=>δt Q\/r' x y H Q):=by
 intro e l p s z H x y v u Q I R Y q S;rcases q with q|q
 ·show h e l p s z H x y v u Q I R Y q S
 ·show h' e l p s z H x y v u Q I R Y q S
def PZ{r:R2}(R:γ7 r)(A:N_ a ta)(hb:N_ b tb)(S:Ec b):N_ (.Subscript a b pos) (tOp r ta tb):=by show λp s n H Q I h=>Subscript_<|Nq A hb I h λv u o x y z w t Y q=>R a b p o n z x y v u Q w t Y q<|S _ _
abbrev Sv(K:wc):R2:=λx y H Q=>∃p xs i v,x=.ref p/\y=.int i/\W9 p xs/\YT i=a0 v/\Q v H
abbrev Sw(K:wc):R2:=λx y H Q=>∃p xs i v,x=.ref p/\y=.int i/\WW p xs/\YT i=a0 v/\Q v H
abbrev Sx:R2:=λx y H Q=>∃z i c,x=.str z/\y=.int i/\z.length<=w9/\αg i=a0 c/\Q (.str ⟨#[c]⟩) H
def Ks:γ7 (Sv X.K):=by
 intro e c n s U H x y v u Q I W V h S;let⟨p,M,i,z,rfl,rfl,Y,Z,q⟩:=h;cases W
 let⟨t,rfl⟩:=V;let⟨T,r,l,O⟩:=I.list Y;let⟨j,o,k,P,g,d⟩:=zV Z;let⟨w,E,R⟩:=r.get k;let L:=r.length;let N:=uE;let f:EP X n U Q w s:=⟨z,H,I,R,q⟩;by_cases m:0<=i
 ·let J:i.toNat=j:=by rw[seqIndex_of m d]at o;show yi o
  show item_listR l.isList m ⋯ (by rw[J];simpa using E) f S
 ·let J:(i+(T.toArray.size:Int)).toNat=j:=by rw[seqIndex_neg ⋯ g]at o;rw[w6,<-L];show yi o
  show subscriptTail_builtinR l.isList.typeIs slot_list_getitem.lookup
   (wpAny_getItem_list_neg l.isList ⋯ (by rw[w6] <;> omega) ⋯ (by rw[J];simpa using E) ⟨rfl,f⟩) S
def NI:γ7 (Sw X.K):=by
 intro e l n s U H x y v u Q I f Y h S;let⟨p,V,i,z,rfl,rfl,g,k,q⟩:=h;cases f
 let⟨t,rfl⟩:=Y;let⟨T,r,P,W⟩:=I.tuple g;let⟨j,o,m,d,c,Z⟩:=zV k;let⟨w,E,R⟩:=r.get m;let N:=uE;show subscriptTail_builtinR P.typeIs slot_tuple_getitem.lookup
  (getItem_tuple P ⋯ ⋯ (by rw[w6,<-r.length];show o) (cA E) ⟨rfl,⟨z,H,I,R,q⟩⟩) S
def NJ:γ7 Sx:=by
 intro e l p s k H x y v u Q I R Y h S;let⟨z,i,c,rfl,rfl,Z,E,q⟩:=h;let⟨t,rfl⟩:=R;let⟨T,rfl⟩:=Y;let⟨j,w,r,m,o,n⟩:=zV E;let L:z.cps.toList.length=z.length:=by simp[Wq]
 rw[L]at w o n;let N:=uE;show tail_any (Yy z t) slot_str_getitem.lookup (getItem_str (by rw[decide_eq_false ⋯,(decide_eq_false ⋯),Bool.or_false]) (by rw[w];simpa using r) ⟨.str ⟨#[c]⟩,H,Xx 0,⟨_,rfl⟩,q⟩) S
def D3(its:Xu 0)(n j)(u):zy (·.setIfInBounds j u) {cls:=.type "list",data:=.seq its.toArray n}={cls:=.type "list",data:=.seq (its.set j u).toArray n}:=by simp[zy]
def Inv.lst{b9:List (d8×Obj)}{σ:St}{H:Hp}{s:d7}{p:d8}{xs:i_ V}(I:q_ s)(h:H p=a0 (.lst xs)):
  ∃(i:Xu 0)(n:Nat),Yv i/\s.heap.get? p=a0 {cls:=.type "list",data:=.seq i.toArray n}/\xs.length<=w9:=by
 let⟨z,i,n,r,e⟩:=γj h;show⟨i,n,r,e,z⟩
def Inv.lstUpd{σ:St}{p:d8}{xs ys:i_ V}{n':Nat}{f:Obj->Obj}(I:q_ s)(h:H p=a0 (.lst xs))(o:s.heap.get? p=a0 {cls:=.type "list",data:=.seq its.toArray n})(F:f {cls:=.type "list",data:=.seq its.toArray n}={cls:=.type "list",data:=.seq ay.toArray n'})(r:aI ys ay)(hz:ys.length<=w9)(t):
  a8 (t_ p<|.lst ys) {s with heap:=γl f,toks:=t}:=by
 let e:(γl f).get? p=a0 {cls:=.type "list",data:=.seq ay.toArray n'}:=by rw[yb f o (by rw[F] <;> rfl),F]
 refine I.write (by rw[h];trivial) (.inl rfl) (λb u B q=>(Yz<|zj B).trans q) ⟨_,e⟩ ?_;show⟨hz,ay,n',r,e⟩
abbrev Q1:V->V->V->Hp->(Hp->Prop)->Prop:=λo i v H Q=>∃p xs k j,o=.ref p/\i=.int k/\H p=a0 (.lst xs)/\δz k=a0 j/\Q (t_ p<|.lst<|xs.set j v)
def set_list:Sj X Q1:=by
 rintro P s e H o i v Y c u Q I f R V ⟨p,S,k,j,rfl,rfl,g,J,q⟩;cases f
 let⟨t,rfl⟩:=R;let⟨T,n,r,O,Z⟩:=I.lst g;let⟨z,d,w,m⟩:=Eb J;let l:=r.length;let N:=uE;let y:Xd P e (t_ p<|.lst _) {s with heap:=γl (zy _)}:=I.lstUpd g O (D3 T n j u) (r.set V j) (by rw[yo];show Z) _;by_cases x:0<=k
 ·let K:k.toNat=j:=by rw[seqIndex_of x m]at z;show yi z
  show PySem.W.ki_setAt O x ⋯ (by rw[w6,<-l];show m) (by rw[K];show⟨_,y,q⟩)
 ·let K:(k+(T.toArray.size:Int)).toNat=j:=by rw[seqIndex_neg ⋯ w]at z;rw[w6,<-l];show yi z
  show PySem.W.ki_setBack O ⋯ (by rw[w6,<-l];show w) ⋯ (by rw[K];show⟨_,y,q⟩)
def zW(lo hi:WS 0)(n:Nat):(V9 lo hi a7 n).1=((HT.sIx n 0 lo:Nat):Int)/\(V9 lo hi a7 n).2.1=((HT.sIx n n hi:Nat):Int)/\(V9 lo hi a7 n).2.2=1:=by
 refine⟨?_,?_,rfl⟩
 ·cases lo with
  |none=>simp[V9,HT.sIx]
  |some i=>
   simp only[V9,HT.sIx,Option.getD_none,show(1:Int)>0 by decide,if_true]
   by_cases h:i<0
   ·simp only[h,if_true] <;> omega
   ·simp only[h,if_false] <;> omega
 ·cases hi with
  |none=>simp[V9,HT.sIx]
  |some i=>
   simp only[V9,HT.sIx,Option.getD_none,show(1:Int)>0 by decide,if_true]
   by_cases h:i<0
   ·simp only[h,if_true] <;> omega
   ·simp only[h,if_false] <;> omega
def wW(its:Xu 0)(lo hi):slicePick its.toArray lo hi a7=((its.drop<|HT.sIx its.length 0 lo).take<|HT.sIx its.length its.length hi-HT.sIx its.length 0 lo).toArray:=by let⟨h,H,z⟩:=zW lo hi _;unfold slicePick;rw[h,H,z];simp only[sliceRange_one,pick_run] <;> rfl
abbrev Q2(K:wc):V->WS 0->WS 0->Hp->VK->Prop:=λx lo hi H Q=>∃a xs,x=.ref a/\W9 a xs/\∀p,H p=a7->Q (.ref p) (t_ p<|.lst<|Fy xs lo hi)
def Kt:γ6 (Q2 X.K):=by
 rintro p s w H x v V U o i L Q I R z P u ⟨a,S,rfl,y,q⟩;cases R
 let⟨T,r,t,Z⟩:=I.list y;let l:=r.length;refine⟨"list",_,slot_list_getitem.lookup,t.isList.typeIs,?_⟩;refine wpAny_getItem_list_slice t.isList z P u .none (by simp) ?_ (by rw[w6] <;> omega);rw[wW,<-l];refine⟨.ref _,_,I.laid (λb O q=>W4 q) (wj _) ?_,rfl,q _<|I.hok.fresh<|wj _⟩;show⟨yd (sD S o i) Z,_,0,(r.drop<|HT.sIx _ 0 o).take<|HT.sIx _ _ i-HT.sIx _ 0 o,XO rfl⟩
def zX:δu (.builtin "len") (λx H Q=>∃p y,x=[.ref p]/\(YQ p y\/α6 p y)/\Q (.int y.length) H):=by
 rintro n s v H x U Q I r ⟨p,y,rfl,z,q⟩;let⟨u,rfl,w⟩:=vals1 r;cases w
 let N:=uE;rcases z with z|z
 ·let⟨i,R,P,Z⟩:=I.list z;let l:=R.length;show β8 (by simp only[w6] <;> omega) ⟨.int _,H,Xx 0,⟨s.toks+1,by rw[w6,l]⟩,q⟩
 ·let⟨i,R,P,Z⟩:=I.tuple z;let l:=R.length;show len_tuple P (by simp only[w6] <;> omega) ⟨.int _,H,Xx 0,⟨s.toks+1,by rw[w6,l]⟩,q⟩
def bX.or{f:d6}{r r':i_ V->Hp->VK->Prop}(h:δu f r)(h':δu f r'):δu f (λx H Q=>r x H Q\/r' x H Q):=by
 intro p s z H x u Q I R q;rcases q with q|q
 ·show X4 x u Q I R q
 ·show h' p s z H x u Q I R q
def zY:δu (.type "list") (λS H Q=>∃p y,S=[.ref p]/\(YQ p y\/α6 p y)/\∀l,H l=a7->Q (.ref l) (t_ l<|.lst y)):=by
 rintro P s j H S U Q I r ⟨p,y,rfl,x,q⟩;let⟨u,rfl,m⟩:=vals1 r;cases m
 let f:∀(i),aI y i->y.length<=w9->∀(z:e_)(c),(∀b t,oa 0=a0 t->z.get? b=a0 t)->
   z.get? ((s).heap.objs.size)=a0 {cls:=.type "list",dict:=a7,data:=.seq _ c,slots:=#[]}->EP X P j Q (.ref _) {s with heap:=z}:=λi R Z z c k e=>
  ⟨.ref _,_,I.laid k (wj _)<|show bT _ X.w _ z _ (.lst y) from⟨Z,i,c,R,e⟩,rfl,q _<|I.hok.fresh<|wj _⟩
 rcases x with x|x
 ·let⟨i,R,v,Z⟩:=I.list x;let L:=R.length;let⟨o,O,C,n,d⟩:=v.isList;show call_list_seq p (.inl rfl) O C d (λz c k e=>f i R Z z c k e) (by simp <;> omega)
 ·let⟨i,R,v,Z⟩:=I.tuple x;let L:=R.length;let⟨o,O,C,n,d⟩:=v;show call_list_seq p (.inr rfl) O C d (λz c k e=>f i R Z z c k e) (by simp <;> omega)
def wX:δu (.type "tuple") (λS H Q=>∃p y,S=[.ref p]/\((YQ p y/\∀l,H l=a7->Q (.ref l) (t_ l<|.tup y))\/(α6 p y/\Q (.ref p) H))):=by
 intro i s m H S U Q I r h;let⟨p,y,rfl,h⟩:=h;let⟨u,rfl,g⟩:=vals1 r;cases g
 rcases h with⟨x,q⟩|⟨x,q⟩
 ·let⟨t,R,P,Z⟩:=I.list x;let n:=R.length;refine call_tuple_list P.isList (λz j=>?_) (by simp <;> omega);let v:Xd i m H {s with heap:=z}:=I.kept j;let k:Xd i m (t_ _<|.tup y) {s with heap:=z.push {cls:=.type "tuple",data:=.seq _} }:=v.laid (λb o e=>W4 e) (wj _) (show bT _ X.w _ _ _ _ from⟨Z,t,R,sY.new _ _⟩)
  show⟨.ref _,_,k,rfl,q _<|v.hok.fresh<|wj _⟩
 ·let⟨t,R,P,Z⟩:=I.tuple x;show call_tuple_same P ⟨.ref p,H,I,rfl,q⟩
abbrev tyV(K:wc)(T:String)(x:V)(H:Hp):Prop:=match x with
 |.str _=>T="str"
 |.int _=>T="int"
 | .ref p=>(T="list" /\ ∃ xs,W9 p xs)\/(T="tuple" /\ ∃ o,K.lookup p=a0 o/\o.cls=.type "tuple" /\ o.dict=a7)\/
   (T="dict" /\ ((∃kvs,H p=a0 (.dK kvs))\/∃kvs,H p=a0 (.dT kvs)))\/(T="set" /\ ∃S n,H p=a0 (.set S n))
 |_=>False
def NK{σ:St}{x:V}(I:q_ s)(r:C_ v)(y:tyV X.K T x H):
  δe T/\∀a,v=.ref a->∃O,YH 0=a0 O/\O.dict=a7:=by
 cases x with
 |str z=>
  let⟨t,rfl⟩:=r;cases(show T="str" from y)
  show⟨Yy z t,λ_ e=>nomatch e⟩
 |int i=>
  let⟨t,rfl⟩:=r;cases(show T="int" from y)
  show⟨typeIs_int s i t,λ_ e=>nomatch e⟩
 |ref p=>
  cases r
  rcases y with⟨rfl,m,q⟩|⟨rfl,o,h,C,d⟩|⟨rfl,h⟩|⟨rfl,S,n,h⟩
  ·let⟨u,_,l,_⟩:=I.list q;refine⟨l.isList.typeIs,λa e=>?_⟩;cases e
   let⟨o,n,e,c,d,_⟩:=l;show⟨o,e,d⟩
  ·refine⟨⟨o,I.kIn p o h,C⟩,λa e=>?_⟩;cases e
   show⟨o,I.kIn _ o h,d⟩
  ·let z:∃o,s.heap.get? p=a0 o/\o.ExactDict:=by
    rcases h with⟨k,h⟩|⟨k,h⟩
    ·let⟨_,_,_,_,o,_,_,e,E,_⟩:=γj h;show⟨o,e,E⟩
    ·let⟨_,_,_,_,o,_,_,e,E,_⟩:=γj h;show⟨o,e,E⟩
   let⟨o,e,E⟩:=z;refine⟨⟨o,e,E.1⟩,λa w=>?_⟩;cases w
   show⟨o,e,E.2.1⟩
  ·let⟨o,_,_,_,e,E,_⟩:=γj h;refine⟨⟨o,e,E.1⟩,λa w=>?_⟩;cases w
   show⟨o,e,E.2.1⟩
 |_=>exact UK y
abbrev tBM(K:wc)(T:String)(r:V->i_ V->Hp->VK->Prop)(to:TE)(t:TA):TE:=λσ H Q=>to σ H λx H1=>tyV K T x H1/\t σ H1 λxs H2=>r x xs H2 Q
variable{o:g_}{to:TE}{t:TA}{id:String}{r:V->i_ V->Hp->VK->Prop}
def Q3(P:PlainAttrs T)(S:γm id)(y:typeOf (.builtin id)=pure (.type "method_descriptor"))(M:δA r)(O:N_ o to)(j:PA X (e::es) t)
  (B:αs (Yd 0)=Yd 0:=by rfl)
  (f:((YU (xq (e::es) X.env)).all (λx=>!x.1)&&(γn (keywordEach [] X.env)).all (λx=>x.1.isSome)
   && decide ((e::es).length+([]:αY 0).length+(if([]:αY 0).isEmpty then 0 else 1)<30))=true:=by rfl)
  (l:(apos.endLine == ab.line)=true:=by rfl) (g:xq (e::es) X.env=(false,xl 0)::Mm 0:=by rfl) (i:(YU<|xq es X.env).any (·.1)=false:=by rfl):
  N_ (.Call (.Attribute o name apos) (e::es) [] ab) (tBM X.K T r to t):=by
 refine λp s z H Q I h=>wpAny_Call_method_late B f l rfl<|thn (O p s z H _ I h) λv Y w0=>?_;let⟨x,u,w,R,V,d⟩:=w0;let⟨m,k⟩:=NK w R V;refine⟨T,id,P,S,y,m,k,?_⟩;let A:=j ab p Y z u _ w d;rw[g]at A⊢;refine Wd (by assumption)<|Calls.evalArgs_plain ?_;refine thn A λU W w0=>?_;let⟨N,q,n,Z,c⟩:=w0;show M p W z q x N v U Q n R Z c
end
abbrev MtM(X:Cx)(id:String)(r:V->i_ V->Hp->VK->Prop):Prop:=
 ∀(b9:List (d8×Obj))(s:d7)(σ:St)(H:Hp)(x:V)(xs:i_ V)(v:d6)(us:Xu 0)(Q:VK),q_ s->C_ v->Yv us->r x xs H Q->
  wpAny (b8 X) X.A (call (.builtin id) (v::us)) (O_ Q) X.xe s
def aI.one:∀{x:V}{us:Xu 0},aI [x] us->∃u,us=[u]/\C_ u
 |_,_,.cons r .nil=>⟨_,rfl,r⟩
variable{t':Nat}
section
variable{σ:St}{l b:d8}{xs ys zs:i_ V}
def Inv.lset{f:y_ 0->y_ 0}(I:q_ s)(h:H l=a0 (.lst xs))(e:δB 0=a0 {cls:=.type "list",data:=.seq its.toArray n})(F:f its.toArray=ay.toArray)(v:aI ys ay)(hz:ys.length<=w9):
  a8 (t_ l<|.lst ys) {s with heap:=s.heap.update l<|zy f,toks:=t'}:=by
 let q:=PySem.IsL.update e f;rw[F]at q;refine I.write (by rw[h];show trivial) (.inl rfl) (λz u B U=>(Yz<|zj B).trans U) ⟨_,q⟩ ?_;show⟨hz,ay,_,v,q⟩
def Inv.lnew(I:q_ s)(h:aI ys its)(hz:ys.length<=w9):
  a8 (t_ ((s).heap.objs.size)<|.lst ys) {s with heap:=s.heap.push {cls:=.type "list",data:=.seq its.toArray},toks:=t'}:=
 I.laid (λ_ _ q=>W4 q) (wj _) ⟨hz,its,0,h,XO rfl⟩
def Inv.fresh(I:q_ s):H ((s).heap.objs.size)=a7:=I.hok.fresh<|wj _
def Inv.lstM(I:q_ s)(h:H l=a0 (.lst xs)):xs.length<=w9/\∃(i:Xu 0)(n:Nat),Yv i/\xs.length=i.length/\δB 0=a0 {cls:=.type "list",data:=.seq i.toArray n}:=by let⟨z,i,n,r,e⟩:=I.hok l _ h;show⟨z,i,n,r,r.length,e⟩
end
abbrev Ku:V->i_ V->Hp->VK->Prop:=λx vs H Q=>∃l xs y,x=.ref l/\vs=[y]/\H l=a0 (.lst xs)/\xs.length<w9/\Q .non (t_ l<|.lst<|xs++[y])
def xX:MtM X "list.append" Ku:=by
 rintro p s m H x S v U Q I t V ⟨l,o,y,rfl,rfl,w,Z,q⟩;cases t
 let⟨u,rfl,R⟩:=V.one;let⟨z,i,n,r,L,e⟩:=I.lstM w;refine call_meets F.slot_list_append ⟨_,e,rfl⟩ F.entry_list_append (F.args_list_append_2 _ _) (PySem.list_append l _ n u (by rw[w6];omega)) ⟨e,?_⟩;refine⟨.non,_,I.lset w e (by simp) (r.append<|.cons R .nil) ?_,rfl,q⟩;rw[wq,List.length_singleton];omega
abbrev Q4:R2:=λx y H Q=>∃l b xs zs,x=.ref l/\y=.ref b/\H l=a0 (.lst xs)/\H b=a0 (.lst zs)/\xs.length+zs.length<=w9/\∀p,H p=a7->Q (.ref p) (t_ p<|.lst<|xs++zs)
def NL:A6 (UO .Add) Q4:=by
 intro p s g H x y v u Q I o Y h;let⟨l,b,S,j,rfl,rfl,w,B,Z,q⟩:=h;cases o
 cases Y
 let⟨z,t,n,r,m,e⟩:=I.lstM w;let⟨k,i,N,R,L,E⟩:=I.lstM B;refine PySem.P.add_list e E ?_ (by rw[w6,w6];omega);let a:t.toArray++i.toArray=(t++i).toArray:=by simp
 rw[a];show⟨.ref _,_,I.lnew (r.append R) (by rw[wq];omega),rfl,q _ I.fresh⟩
end _L
namespace Att
open PySem PySem.W PySem.Calls PyProof.Rows
variable{P:Params}{h:e_}
def sZ:∀(s:Zg 0)(v:Xu 0),WellAll P h v (s.map WData.int)->IntsAre v s:=by
 intro s
 induction s with
 |nil=>
  intro v w;cases w
  show .nil
 |cons n s i=>
  intro v w;cases w with
  |cons a b=>
   cases a
   show .cons _ _<|i _ b
variable{args:i_ WData}{l:OpenLaw}{n:Nat}{vals:Xu 0}
def Fz(N:l.most=a0 n)(p:l.row.toRowW.claim.pre args=true)(w:WellAll P h vals args):
  ∃a v s,vals=[z8 a]/\args=[WData.list<|s.map WData.int]/\Y6 0=a0 {cls:=.type "list",data:=.seq v.toArray}/\IntsAre v s/\s.length<=n:=by
 let c:l.pre.holds [] { args:=args}=true:=(pre_splitW p).2;let⟨d,r,rfl,x,u⟩:=hasAllW_cons<|(pre_splitW p).1;obtain rfl:=hasAllW_nil u;let⟨X,rfl,t⟩:=hasW_list x;let⟨s,rfl⟩:=items_int t;let e:s.length<=n:=by
  let z:(WTm.not<|.lt (.lit<|.int (n:Int))<|.len<|.arg 0).holds [] { args:=[.list<|s.map .int]}=true:=by let z:=(holds_andW c).1;rw[N]at z;show z
  let y:=condW_of z<|w_not<|w_lt w_lit<|w_len_list<|w_arg rfl;refine Nat.le_of_not_lt λq=>?_
  first
   |(rw[decide_eq_true q']at y;show absurd y<|by decide)
   |(simp at y;omega)
 cases w with
 |cons W m=>
  cases m
  cases W with
  |list o H=>exact⟨_,_,s,rfl,rfl,o,sZ s _ H,e⟩
def FA(l:OpenLaw)(args:i_ WData):l.row.toRowW.claim.post args (.bool true) args=true:=
 postW_of
  (show WShape.has [] (.bool true) .bool=true by first|rfl|decide|simp[WShape.has])
  (show(WTm.eq .res<|.lit<|.bool true).value [] { args:=args,res:=a0<|.bool true,after:=args}=a0 (.bool<|true == true) from w_eq_bool (w_res rfl) w_lit) rfl
variable{XP:((Str->T_ 0))->e_->Prop}{YP:fI->e_->Prop}{loose:yp 0}
def attach_call{q:f_}{d:DefRec}(hn:l.most=a0 n)(jf:d.params.defaults=[])(call:∀(w:fI)(s₀ s₁:d7)(mg mb:(Str->T_ 0))(fa:d8)(o:Obj)(pm cd doc:d6)(a:d8)(vs:Xu 0)(ns:Zg 0),
   Ground q loose [] XP w s₀ mg mb s₁.heap->YP w s₁.heap->
   s₁.heap.get? fa=a0 o->o.data=.func (docDef d.name d.params d.body d.scope pm cd doc)->s₁.heap.CodeRec cd d.name->mg d.name=a0 (.ref fa)->
   s₁.heap.get? a=a0 {cls:=.type "list",data:=.seq vs.toArray}->IntsAre vs ns->ns.length<=n->s₁.gens=#[]->
   codeAny (model l.prog w) callerA (.call (.ref fa) ⟨[.ref a],[]⟩) (λr s'=>r=.ok (.ret (.bool true))/\βa 0/\s'.os=s₁.os/\αm 0) s₁):
  WalkO q loose XP YP l.row.toRowW d [] (λf vs=>PySem.call f vs):=by
 intro w s₀ s₁ mg mb G Y fa o pm cd doc dV kV ho hd jg hD hmg hg args vals as hpre hlay hrd hwl hlo;obtain rfl:dV=.none:=Dflts.none hD jf;obtain rfl:kV=.none:=Dflts.noKw hD;let⟨a,vs,ns,rfl,rfl,gu,hints,hlen⟩:=Fz hn hpre hwl;refine enter_call<|WD (call w s₀ s₁ mg mb fa o pm cd doc a vs ns G Y ho (fd_plain hd) jg hmg gu hints hlen hg) λr s' hq=>?_;let⟨rfl,h2,h3,h4⟩:=hq;show⟨.inl ⟨.bool true,.bool true,[],rfl,λ_=>rfl,.bool true,FA l _,λ_=>⟨UT,λ_ hm=>(nomatch hm)⟩⟩,h2,h3,h4⟩
end Att
namespace _L
def xY:∀{vs:Xu 0}{ns:Zg 0},IntsAre vs ns->aI (Yc 0) vs
 |_,_,.nil=>.nil
 |_,_,.cons n t h=>.cons ⟨t,rfl⟩ (xY h)
abbrev Ha(H:Hp):Prop:=∀b,H b=a7\/∃o xs,H b=a0 (.frz o<|.lst xs)
variable{CX:CXT}{K:wc}{P:f_}{a:d8}{fd:UH}{mg:(Str->T_ 0)}{ns:Zg 0}{sp:Sp}{s₁:d7}{vs:Xu 0}{w:fI}{x:Str}
def Hb{mb:(Str->T_ 0)}{k:Nat}{fa:d8}(KX:K.In s₁.heap)(o5:s₁.heap.Ns Uz mg)(hb:s₁.heap.Ns builtinsNs mb)(uk:∀x:Str,x≠"__name__" -> mb x=Vv x)(ko:s₁.heap.NoLimit)(hg:s₁.gens=#[])(ha:s₁.heap.get? a=a0 {cls:=.type "list",data:=.seq vs.toArray})(hi:IntsAre vs ns)(hl:ns.length<=w9)(hr:dX k callerA)(F:∀base:e_,K.In base->δf mg->W3 CX k fa fd [x] sp)(jl:∀(s:d7)(u:d6),αr ⟨[u],[]⟩ [(x,u)])(jx:∀H:Hp,Ha H->W9 a (Yc 0)->sp [.ref a] H (λv _=>v=.bl true) λ_ _ _=>False)(k6:∀H e s',CX [] H s₁ (λ_ _ _=>False) e s'->False):
  codeAny (model P w) callerA (.call (.ref fa) ⟨[.ref a],[]⟩) (λr s'=>r=.ok (.ret<|.bool true)/\βa 0/\s'.os=s₁.os/\αm 0) s₁:=by
 let rv:=xY hi;let m9:=hi.length
 -- from an abstract heap in which nothing but the script may be tracked
 let core:∀H:Hp,Ha H->W9 a (Yc 0)->W2 s₁.heap->(∀b,H b≠a7->b=a)->(H a≠a7->βZ 0=a7)->
   codeAny (model P w) callerA (.call (.ref fa) ⟨[.ref a],[]⟩) (λr s'=>r=.ok (.ret<|.bool true)/\βa 0/\s'.os=s₁.os/\αm 0) s₁:=by
  intro H hO hS hok hA hK;let dq:∀{b:d8}{o:Obj},s₁.heap.get? b=a0 o->H b=a7->(αt H).get? b=a0 o:=λe n=>GF e n;let qk:∀{b:d8}{o:Obj}{es:Y8 0}{ep:Nat},s₁.heap.get? b=a0 o->o.data=.dict es ep->H b=a7:=λ{b o es ep} e d=>by
   cases q:H b with
   |none=>rfl
   |some u=>have e':b=a:=hA b (by rw[q];simp);subst e';rw[ha]at e;cases e;let d':Data.seq vs.toArray _=Data.dict es ep:=d;cases d'
  let j':∀{b:d8}{m:(Str->T_ 0)},s₁.heap.Ns b m->(αt H).Ns b m:=λ{b m} ⟨o,es,ep,e,d,r⟩=>⟨o,es,ep,dq e (qk e d),d,r⟩;let p0:K.In (αt H):=λb o e=>dq (KX b o e) (by
   cases q:H b with
   |none=>rfl
   |some u=>have e':b=a:=hA b (by rw[q];simp);subst e';rw[hK (by rw[q];simp)]at e;cases e)
  let hM:Mod K mg (αt H):=⟨p0,j' o5,⟨mb,j' hb,uk⟩,let ⟨mc,h1,h2⟩:=ko;⟨mc,j' h1,h2⟩⟩;let e0:uI P w K mg (αt H) callerA [] s₁ H:=⟨rfl,hM,λb o e=>K6 e,Nat.le_of_eq<|Fm _ _,trivial,λb hb=>absurd (show b∈([]:i_ d8) from hb) (by simp),hok,.of_eq hg⟩
  refine WD ((F _ p0<|j' o5).run callerA [] s₁ H ⟨[.ref a],[]⟩ [.ref a] [.ref a] _ _ hr e0 (jl s₁<|.ref a) (.cons rfl .nil)<|jx H hO hS) λr s' h=>?_;cases r with
  |error e=>exact(k6 H e s' h).elim
  |ok fl=>
   cases fl with
   |next=>exact UK h
   |brk=>exact UK h
   |cont=>exact UK h
   |ret u=>
    let⟨v,H',os,bare,un,nj,r',q⟩:=h;let q':v=.bl true:=q;subst q';obtain rfl:u=Value.bool true:=r';refine⟨rfl,OldK.of_keep λb o e=>?_,os,bare⟩;cases q:H b with
    |none=>exact un.keep b o e q (by intro z;show absurd (show b∈([]:i_ d8) from z) (by simp)) (by simp)
    |some u=>
     rcases hO b with z|⟨ob,xs,z⟩
     ·rw[q]at z;cases z
     ·let z2:=un.frzs b ob _ z;let⟨e1,_⟩:=hok b _ z;let⟨e2,_⟩:=nj b _ z2;rw[e]at e1;cases e1;show e2
 cases hk:βZ 0 with
 |some o=>
  -- the script is one of the module's own objects
  let e:=KX a o hk;rw[ha]at e;cases e
  refine core (λ_=>a7) (λ_=>.inl rfl) (.inr ⟨_,vs.toArray,_,hk,rfl,rfl,rfl,by rw[w6,m9];show hl,cA rv⟩) (λb u z=>by let z':(a7:jh HO)=a0 u:=z;cases z') (λb z=>absurd rfl z) λz=>absurd rfl z
 |none=>
  refine core (λb=>if b=a then a0 (.frz {cls:=.type "list",data:=.seq vs.toArray}<|.lst<|ns.map V.int) else a7) (λb=>?_) (.inl<|.inr ⟨{cls:=.type "list",data:=.seq vs.toArray},if_pos rfl⟩) (λb u z=>?_) (λb z=>?_) λ_=>hk
  ·by_cases hb:b=a
   ·show .inr ⟨_,_,if_pos hb⟩
   ·show .inl (if_neg hb)
  ·by_cases hb:b=a
   ·let z':=(if_pos hb).symm.trans z;cases z'
    subst hb;show⟨ha,by rw[wd];show hl,vs,_,rv,ha⟩
   ·let z':=(if_neg hb).symm.trans z;cases z'
  ·by_cases hb:b=a
   ·show hb
   ·show absurd (if_neg hb) z
variable{XP:((Str->T_ 0))->e_->Prop}{YP:fI->e_->Prop}{loose:yp 0}{n:Nat}
def walk_of{l:PySem.W.OpenLaw}{k:Nat}{q:f_}{d:DefRec}{K:Params->wc}{CX:fI->CXT}{sp:fI->Sp}(hn:l.most=a0 n)(ub:n<=w9)(jf:d.params.defaults=[])(hr:dX k callerA)(hY:∀(w:fI)(h:e_),YP w h->(Zh 0).In h)(F:∀(w:fI)(mg:(Str->T_ 0))(fa:d8)(h:e_),(Zh 0).In h->h.Ns Uz mg->mg d.name=a0 (.ref fa)->
   ∃fd:UH,(∀(s:d7)(u:d6),αr ⟨[u],[]⟩ [(x,u)])/\
    ∀base:e_,(Zh 0).In base->δf mg->cI l.prog w (Zh 0) mg base (CX w) k fa fd [x] (sp w))(jx:∀(w:fI)(H:Hp)(a:d8)(ns:Zg 0),ns.length<=n->Ha H->SqL (Zh 0) H a (Yc 0)->sp w [.ref a] H (λv _=>v=.bl true) λ_ _ _=>False)(k6:∀(w:fI)(H:Hp)(s:d7)(e:d6)(s':d7),CX w [] H s (λ_ _ _=>False) e s'->False):
  αh [] (λf vs=>PySem.call f vs):=by
 refine Att.attach_call hn jf λw s₀ s₁ mg mb fa o pm cd doc a vs ns G Y ho hd jg hmg gu hints hlen hg=>?_;let KX:=hY w _ Y;let⟨fd,hb,hF⟩:=F w mg fa _ KX G.T.g hmg;show Hb KX G.T.g G.T.b G.T.builtins G.T.nolimit hg gu hints (yd hlen ub) hr hF hb (λH hO hS=>jx w H a ns hlen hO hS) λH e s'=>k6 w H s₁ e s'
abbrev inClass(s:h_)(j:Nat):h_:=match s with
 |.ClassDef _ _ _ body _ _ _ _ _ _ _=>body.getD j (.Pass ⟨0,0,0,0⟩)
 |_=>.Pass ⟨0,0,0,0⟩
abbrev dS(s:h_):Arguments:=match s with
 |.FunctionDef _ a _ _ _ _ _ _ _ _=>a
 |_=>{ posonlyargs:=[],args:=[],vararg:=a7,kwonlyargs:=[],kw_defaults:=[],kwarg:=a7,defaults:=[]}
abbrev bY(s:h_):i_ h_:=match s with
 |.FunctionDef _ _ b _ _ _ _ _ _ _=>b
 |_=>[]
abbrev aS(s:h_):Scope:=match s with
 |.FunctionDef _ _ _ _ _ _ sc _ _ _=>sc
 |_=>{ kind:=.function,names:=[],isGenerator:=false,isCoroutine:=false}
@[reducible]noncomputable def CX0:CXT:=λ_ _ _ _ _ _=>False
@[reducible]noncomputable def E0:XK:=λ_ _ _=>False
variable{X:Cx}
def xZ:pB CX0 X E0:=λ_ _ _ _ _ _ _ h=>h.elim
structure Fun(K:wc)(x qual:Str)(st:h_)(f:d8)(fd:UH):Prop where
 ex:∃(oc:d6)(od:jh d8)(kV doc pm:d6)(an:jh d8)(cdv ct:d6)(osl:Array (Option d6)),
  fd=US x qual (dS st) (bY st) (aS st) .none kV doc pm an cdv ct/\K.lookup f=some ⟨oc,od,.func fd,osl⟩/\WM K cdv qual=true
 kp:U2 K (.ref f)=true
variable{N ps:yp 0}{base:e_}{qual:Str}
def Fun.ok{st:h_}{f:d8}{k:Nat}(F:βB fd)(S:pT N ps (aS st))(len:∀vs H Q E,sp vs H Q E->vs.length=ps.length)(ju:∀(cdv:d6)(A:d_)(outer:i_ Env)(s:d7)(H:Hp)(vs:i_ V)(Q:VK)(E:XK),dX k (A.deeper (envOfC qual (aS st) ((s).heap.objs.size) f cdv))->sp vs H Q E->
   ∃t,PSs (YA qual (aS st) f cdv A outer s H E).nox (bY st) t/\t { nx:=λ_ H'=>Q .non H',rt:=Q} (start N vs) H):W3 CX0 (k+1) f fd ps sp:=by
 let⟨oc,od,kV,doc,pm,an,cdv,ct,osl,rfl,lk,jg⟩:=F.ex;refine PU lk jg S len λA outer s H vs Q E hr jx=>?_;let⟨t,h,q⟩:=ju cdv A outer s H vs Q E hr jx;show⟨t,h.nox,q⟩
def Fun.binds{st:h_}{f:d8}(F:βB fd)(h:∀(kV doc pm:d6)(an:jh d8)(cdv ct:d6)(us:Xu 0),us.length=ps.length->bindArgs (US x qual (dS st) (bY st) (aS st) .none kV doc pm an cdv ct) ⟨us,[]⟩=pure (ps.zip us)):Binds K fd ps []:=by let⟨oc,od,kV,doc,pm,an,cdv,ct,osl,rfl,lk,jg⟩:=F.ex;show .all<|h kV doc pm an cdv ct
variable{an od:jh d8}{cdv ct doc pm:d6}{osl:Array (T_ 0)}
def D4{st:h_}{f:d8}{oc:d6}{kV:d6}(l:K.lookup f=a0 ⟨oc,od,.func<|US x qual (dS st) (bY st) (aS st) .none kV doc pm an cdv ct,osl⟩)(c:WM K cdv qual=true)(k:U2 K (.ref f)=true):βB (US x qual (dS st) (bY st) (aS st) .none kV doc pm an cdv ct):=⟨⟨oc,od,kV,doc,pm,an,cdv,ct,osl,rfl,l,c⟩,k⟩
variable{A:d_}
def Q5{k:Nat}(h:dX k A):A.units+1<cLine:=UI (Nat.add_le_add_left (by decide:1<=64) _) h.units
variable{B:Prop}
def FB{A:Prop}(h:B):if false=true then A else B:=by show h
def FC{A:Prop}(h:A):if true=true then A else B:=by show h
abbrev wY(H H':Hp):Prop:=∀b o,H b=a0 o->H' b=a0 o
variable{u:d6}
section
variable{κ:Type}[XR 0]
abbrev mE(kvs:i_ (κ×V))(k:κ):jh V:=(kvs.find? λkv=>decide (kv.1=k)).map (·.2)
abbrev putK(kvs:i_ (κ×V))(k:κ)(v:V):i_ (κ×V):=if(kvs.any λkv=>decide (kv.1=k))=true then kvs.map (λkv=>if kv.1=k then(kv.1,v) else kv) else kvs++[(k,v)]
def pU{p:κ×V}{r:i_ (κ×V)}{k:κ}(e:p.1=k):mE (p::r) k=a0 p.2:=by simp[mE,e]
def pV{p:κ×V}{r:i_ (κ×V)}{k:κ}(e:¬ p.1=k):mE (p::r) k=mE r k:=by simp[mE,e]
def uK(k:κ):∀v,(v.any λK=>decide (K.1=k))=(mE v k).isSome
 |[]=>rfl
 |p::r=>by
  rw[List.any_cons];by_cases e:p.1=k
  ·simp[pU e,decide_eq_true e]
  ·rw[pV e,decide_eq_false e];show uK k r
def mJ(kvs)(k:κ)(v:V):(βC v).length<=kvs.length+1:=by
 unfold putK;split
 ·rw[wd];omega
 ·rw[wq,yw,VU];omega
def mI.isSome_eq{o:jh V}{u:jh d6}(r:mI o u):o.isSome=u.isSome:=by
 cases o with
 |none=>cases u with
  |none=>rfl
  |some _=>exact(r).elim
 |some _=>cases u with
  |none=>exact(r).elim
  |some _=>rfl
def mI.getD{o:jh V}{u:jh d6}{d:V}{d':d6}(r:mI o u)(R:RelV d d'):RelV (o.getD d) (u.getD d'):=by
 cases o with
 |none=>cases u with
  |none=>exact R
  |some _=>exact(r).elim
 |some _=>cases u with
  |none=>exact(r).elim
  |some _=>exact r
def KV.val{kvs:i_ (κ×V)}{vs:i_ (κ×d6)}(r:α5 vs)(k:κ):mI (mE kvs k) (valueAt vs k):=by
 induction r with
 |nil=>exact UR
 | @cons p q P s h t i=>
  let⟨H,y⟩:=h;by_cases e:p.1=k
  ·let E:=H.symm.trans e;let b:valueAt (q::s) k=a0 q.2:=by simp[valueAt,E]
   rw[pU e,b];show y
  ·let E:¬ q.1=k:=λz=>e<|H.trans z;let b:valueAt (q::s) k=valueAt s k:=by simp[valueAt,E]
   rw[pV e,b];show i
def KV.any{kvs:i_ (κ×V)}{vs:i_ (κ×d6)}(r:α5 vs)(k:κ):(kvs.any λv=>decide (v.1=k))=vs.any λv=>decide (v.1=k):=by
 induction r with
 |nil=>rfl
 |cons h t i=>rw[List.any_cons,List.any_cons,i,h.1]
def KV.repl{kvs:i_ (κ×V)}{vs:i_ (κ×d6)}(r:α5 vs)(k:κ){y:V}(R:P_ u):
  KV (kvs.map λv=>if v.1=k then(v.1,y) else v) (vs.map λv=>if v.1=k then(v.1,u) else v):=by
 induction r with
 |nil=>exact .nil
 | @cons p q s Q h t i=>
  rw[xg,xg];refine .cons ?_ i;let⟨H,x⟩:=h;by_cases e:p.1=k
  ·rw[Yn 0,if_pos<|H.symm.trans e];show⟨H,R⟩
  ·rw[W5 0,if_neg<|λz=>e<|H.trans z];show⟨H,x⟩
def KV.put{kvs:i_ (κ×V)}{vs:i_ (κ×d6)}(r:α5 vs)(k:κ){y:V}(R:P_ u):KV (βC y) (stored vs k u):=by
 unfold putK stored;rw[r.any k];by_cases e:(vs.any λv=>decide (v.1=k))=true
 ·rw[Yn 0,Yn 0];show r.repl k R
 ·rw[W5 0,W5 0];show βb ⟨rfl,R⟩
def KV.length{kvs:i_ (κ×V)}{vs:i_ (κ×d6)}(r:α5 vs):kvs.length=vs.length:=ze r
end
def sE{k:Key}(r:RelV (kV k) u):(bC P w).is k u=true:=by
 cases k with
 |inl i=>let⟨t,e⟩:=(r);subst e;show Bf P w i t
 |inr x=>let⟨t,e⟩:=(r);subst e;show rY P w x t
def yA{P:f_}{w:fI}:∀{ks:XQ 0}{us:Xu 0},aI (ks.map kV) us->ItemsAre (bC P w) ks us
 |[],_,r=>by rw[List.map_nil]at r;cases r;show .nil
 |k::ks,_,r=>by
  cases r with
  |cons h t=>exact .cons (sE h)<|yA t
@[reducible]noncomputable def KT(H:Hp):i_ (XQ 0×V)->i_ (XQ 0×d8×d6)->Prop:=Paired λp q=>p.1=q.1/\H q.2.1=a0 (.tup<|p.1.map kV)/\RelV p.2 q.2.2
variable{H:Hp}
def KT.val{kvs:i_ (XQ 0×V)}{xs:i_ (XQ 0×d8×d6)}(r:γa xs)(k):mI (mE kvs k) ((YB k).map (·.2)):=by
 induction r with
 |nil=>exact UR
 | @cons p q P s h t i=>
  let⟨y,_,x⟩:=h;by_cases e:p.1=k
  ·let E:=y.symm.trans e;let b:atKey (q::s) k=a0 q.2:=by simp[atKey,E]
   rw[pU e,b];show x
  ·let E:¬ q.1=k:=λz=>e<|y.trans z;let b:atKey (q::s) k=atKey s k:=by simp[atKey,E]
   rw[pV e,b];show i
def KT.repl{kvs:i_ (XQ 0×V)}{xs:i_ (XQ 0×d8×d6)}(r:γa xs)(k){y:V}(R:P_ u):
  KT H (kvs.map λv=>if v.1=k then(v.1,y) else v) (xs.map<|putAt k u):=by
 induction r with
 |nil=>exact .nil
 | @cons p q P Q h t i=>
  rw[xg];refine .cons ?_ i;let⟨x,w,s⟩:=h;unfold putAt;by_cases e:p.1=k
  ·rw[Yn 0,if_pos<|x.symm.trans e];show⟨x,w,R⟩
  ·rw[W5 0,if_neg<|λz=>e<|x.trans z];show⟨x,w,s⟩
def KT.put{kvs:i_ (XQ 0×V)}{xs:i_ (XQ 0×d8×d6)}(r:γa xs)(k){b:d8}{y:V}(hb:H b=a0 (.tup<|k.map kV))(R:P_ u):
  KT H (βC y) (storedH xs k b u):=by
 let e:(kvs.any λv=>decide (v.1=k))=(YB k).isSome:=by rw[uK,(r.val k).isSome_eq,Vx]
 unfold putK storedH;rw[e];by_cases q:(YB k).isSome=true
 ·rw[if_pos q,if_pos q];show r.repl k R
 ·rw[if_neg q,if_neg q];show βb ⟨rfl,hb,R⟩
variable{H':Hp}
def KT.keeps{kvs:i_ (XQ 0×V)}{xs:i_ (XQ 0×d8×d6)}(r:γa xs)(h:∀b y,H b=a0 (.tup y)->H' b=a0 (.tup y)):KT H' kvs xs:=Paired.mapP r λ_ _ z=>⟨z.1,h _ _ z.2.1,z.2.2⟩
def My{h:e_}{u:HO}(ok:W2 h)(e:βR u):Xw u:=e.ok ok
def uL{h:e_}{kvs:i_ (Key×V)}(o:W2 h)(e:βR (.dK kvs)):kvs.length<=w9/\(a == Uy)=false/\∃v,α5 v/\h.DictOf (bC P w) a v:=show Xw _ from My o e
def uM{h:e_}{kvs:i_ (Key×V)}(o:W2 h)(e:H a=a0 (.dK kvs)):kvs.length<=w9/\(a == Uy)=false/\∃v,α5 v/\h.DictOf (bC P w) a v:=uL o<|.inl e
def qW{h:e_}{ks:XQ 0}(k:W2 h)(e:H a=a0 (.tup<|ks.map kV)):(tupleKind<|bC P w).is h ks a:=by
 let⟨_,i,r,o,z,y,⟨n,x⟩,_⟩:=(show Xw (.tup _) from k a _ e)
 show⟨o,i.toArray,n,z,y,x,by simpa using yA r⟩
def yB{h:e_}{kvs:i_ (XQ 0×V)}(k:W2 h)(e:βR (.dT kvs)):kvs.length<=w9/\(a == Uy)=false/\
  ∃s,γa s/\h.DictOfH (tupleKind<|bC P w) a s:=by
 let⟨z,y,s,r,o,S,E,v,u,n,j,i⟩:=(show Xw _ from My k e)
 refine⟨z,y,s,r,o,S,E,v,u,n,j,λx X=>?_,i⟩;let A:∀{l:i_ _}{m:i_ _},KT H l m->∀x∈m,(tupleKind<|bC P w).is h x.1 x.2.1:=by
  intro l m q
  induction q with
  |nil=>intro x X;show nomatch X
  | @cons p q g f Q t I=>
   intro x X;rcases wu.mp X with e|X
   ·subst e;show qW k (by rw[<-Q.1];show Q.2.1)
   ·show I x X
 show A r x X
def Q6{h:e_}{kvs:i_ (XQ 0×V)}(o:W2 h)(e:H a=a0 (.dT kvs)):kvs.length<=w9/\(a == Uy)=false/\
  ∃x,γa x/\h.DictOfH (tupleKind<|bC P w) a x:=yB o<|.inl e
abbrev tB(H:Hp)(a:d8)(y:V)(r:jh V):Prop:=(∃kvs k,βR (.dK kvs)/\y=kV k/\r=mE kvs k)\/∃kvs k b,βR (.dT kvs)/\y=.ref b/\H b=a0 (.tup<|k.map kV)/\r=mE kvs k
abbrev NM(H:Hp)(a:d8)(y v:V)(H':Hp):Prop:=
 (∃kvs k,H a=a0 (.dK kvs)/\y=kV k/\kvs.length<w9/\H'=YG (.dK<|putK kvs k v))\/
 ∃kvs k b,H a=a0 (.dT kvs)/\y=.ref b/\H b=a0 (.tup<|k.map kV)/\kvs.length<w9/\H'=YG (.dT<|putK kvs k v)
def tB.k{H:Hp}{a:d8}{kvs:i_ (Key×V)}{k:Key}(e:H a=a0 (.dK kvs)):δg (kV k) (mE kvs k):=.inl ⟨kvs,k,.inl e,rfl,rfl⟩
def NM.k{H:Hp}{a:d8}{kvs:i_ (Key×V)}{k:Key}{v:V}(e:H a=a0 (.dK kvs))(h:kvs.length<w9):NM H a (kV k) v (YG<|.dK<|putK kvs k v):=.inl ⟨kvs,k,e,rfl,h,rfl⟩
variable{b9:List (d8×Obj)}{s:d7}{E Q:(d6->d7->Prop)}{h':e_}{t':Nat}
section
variable{σ:St}{y v:V}{r:d6}{o:jh V}
def Inv.big(I:q_ s):Uy<((s).heap.objs.size):=by show Nat.lt_trans (by decide)<|(βy 0).lt
def FD(U:A.units+1<cLine)(I:q_ s)(g:δg y (a0 v))(t:P_ u)(h:∀W S,q_ S->WV W->Q W S):
  wpAny (b8 X) A (getItem (.ref a) u) Q E s:=by
 rcases g with⟨K,k,e,Y,l⟩|⟨K,k,b,e,Y,B,l⟩
 ·subst Y;let⟨z,D,V,r,d⟩:=γb e;let⟨W,x,R⟩:=mI.some_of (by rw[l];show r.val k);show wpAny_getItem_of (sE t) d.mapOf x<|h W _ (Xx 0) R
 ·subst Y;cases(t)
  let⟨z,D,o,r,d⟩:=δC e;let⟨W,x,R⟩:=mI.some_of (by rw[l];show r.val k);let⟨p,q,P⟩:=xv.mp x;refine wpAny_getItem_heap (We U) (δD B) d q ?_;rw[P];show h W _ (Xx 0) R
def Sy(U:A.units+1<cLine)(I:q_ s)(g:δg y o)(R:P_ u)(h:∀S,q_ S->Q (.bool o.isSome) S):
  wpAny (b8 X) A (zt .In u<|.ref a) Q E s:=by
 rcases g with⟨v,k,e,Y,l⟩|⟨v,k,b,e,Y,B,l⟩
 ·subst Y;let⟨z,D,V,r,d⟩:=γb e;refine wpAny_in_of (sE R) D d.mapOf ?_;rw[<-(r.val k).isSome_eq,<-l];show h _<|I.tok _
 ·subst Y;cases(R)
  let⟨z,D,x,r,d⟩:=δC e;refine wpAny_in_heap (We U) (δD B) D d ?_;let q:=(r.val k).isSome_eq;rw[Vx]at q;rw[<-q,<-l];show h _<|I.tok _
def Kv(U:A.units+1<cLine)(I:q_ s)(g:δg y o)(x:P_ u)(h:∀S,q_ S->Q (.bool<|!o.isSome) S):
  wpAny (b8 X) A (zt .NotIn u<|.ref a) Q E s:=by
 rcases g with⟨K,k,e,Y,l⟩|⟨K,k,b,e,Y,B,l⟩
 ·subst Y;let⟨z,D,V,R,d⟩:=γb e;refine wpAny_notIn_of (sE x) D d.mapOf ?_;rw[<-(R.val k).isSome_eq,<-l];show h _<|I.tok _
 ·subst Y;cases(x)
  let⟨z,D,t,R,d⟩:=δC e;refine wpAny_notIn_heap (We U) (δD B) D d ?_;let q:=(R.val k).isSome_eq;rw[Vx]at q;rw[<-q,<-l];show h _<|I.tok _
def pW{ob:HO}(I:q_ s)(m:Mut (H a))(S:U9 a s.heap h')(e:∃q,δq 0=a0 q)(n:Z2 (YG ob) h' a ob):
  a8 (YG ob) {s with heap:=h',toks:=t'}:=
 I.write m (.inl rfl) (λb q h z=>(S.2 b h).trans z) e n
def Hc{kvs:i_ (Key×V)}{vs:i_ (Key×d6)}(z:kvs.length<=w9)(h:(a == Uy)=false)(e:α5 vs)(d:h'.DictOf (bC P w) a vs):
  bT P w H' h' a (.dK kvs):=⟨z,h,vs,e,d⟩
def FF{Q:(Unit->d7->Prop)}(hu:A.units+1<cLine)(I:q_ s)(g:NM H a y v H')(ry:P_ u)(rv:WV r)(h:∀s',β5 s'->Q () s'):
  wpAny (b8 X) A (setItem (.ref a) u r) Q E s:=by
 rcases g with⟨kvs,k,e,ey,l,eH⟩|⟨kvs,k,b,e,ey,eb,l,eH⟩
 ·subst ey eH;let⟨z,hd,vs,rel,dd⟩:=γc e;let hz:vs.length<=w9:=by rw[<-rel.length];show z
  let hl:(βC v).length<=w9:=by have:=mJ kvs k v;omega
  refine wpAny_setItem_pairs (hsz:=hz) (sE ry) dd λh' i7 hs=>h _ ?_;let he:∃q,δq 0=a0 q:=let ⟨q,_,_,hq,_⟩:=i7;⟨q,hq⟩;show pW I (by rw[e];show UR) hs he<|Hc hl hd (rel.put k rv) i7
 ·subst ey eH;cases(show u=z8 b from ry)
  let⟨z,hd,xs,rel,dd⟩:=Q6 I.hok e;let hz:xs.length<=w9:=by rw[<-ze rel];show z
  let hl:(βC v).length<=w9:=by have:=mJ kvs k v;omega
  refine wpAny_setItem_heap (hsz:=hz) (We hu) (δD eb) dd λh' i7 hs=>h _ ?_;let⟨q,es,ep,hq,h2,h3,h4,_,h5⟩:=i7;refine pW I (by rw[e];show UR) hs ⟨q,hq⟩ ⟨hl,hd,_,(rel.put k eb rv).keeps λc ys ec=>?_,q,es,ep,hq,h2,h3,h4,h5⟩;rw[aF<|Py ec e<|λz=>nomatch z];show ec
end
section
variable{σ:St}{kvs:i_ (Key×V)}{k:Key}
def Q7(I:q_ s)(e:βR (.dK kvs))(h:∀t s',q_ s'->Q (.int kvs.length t) s'):wpAny (b8 X) A (call (.builtin "len") [.ref a]) Q E s:=by let⟨z,hd,vs,rel,dd⟩:=γb e;refine call_len_dict hd dd (by rw[<-rel.length];rw[Uu]at z;omega) ?_;rw[<-rel.length];show h _ _<|I.tok _
end
def Bm{σ:St}{y:V}{o:jh V}(I:q_ s)(g:δg y o):s.TypeIs (.ref a) "dict" := by
 rcases g with⟨v,k,e,_,_⟩|⟨v,k,b,e,_,_,_⟩
 ·let⟨_,_,S,_,d⟩:=γb e;show d.typeIs
 ·let⟨_,_,x,_,d⟩:=δC e;show d.typeIs
def Bn(h:e_)(hb:Uy<h.objs.size):bT P w H (h.push {cls:=.type "dict",data:=.dict #[]}) h.objs.size (.dK []):=⟨zk _,beq_eq_false_iff_ne.mpr<|zj<|xj hb,[],.nil,Heap.DictOf.new h⟩
abbrev NN:TE:=λ_ H Q=>∀p,H p=a7->Q (.ref p) (t_ p<|.dK [])
variable{pos:Pos}
def Hd:N_ (.Dict [] [] pos) NN:=λp s z H Q I h=>wpAny_Dict_empty ⟨.ref<|(s).heap.objs.size,_,I.laid (λ_ _ q=>W4 q) (wj _)<|Bn s.heap I.big,rfl,h _<|I.hok.fresh<|wj _⟩
section
variable{σ:St}{y d:V}{r:d6}{o:jh V}
def NO(hu:A.units+1<cLine)(I:q_ s)(g:δg y o)(ry:P_ u)(rd:RelV d r)(h:∀w' s',q_ s'->RelV (o.getD d) w'->Q w' s'):
  wpAny (b8 X) A (call (.builtin "dict.get") [.ref a,u,r]) Q E s:=by
 rcases g with⟨kvs,k,e,ey,l⟩|⟨kvs,k,b,e,ey,eb,l⟩
 ·subst ey;let⟨z,hd,vs,rel,dd⟩:=γb e;refine ZI (γo _) (meets_dict_get_default (bC X.prog X.w) a (sE ry) hd r) ⟨_,dd.mapOf,h _ _ (Xx 0) ?_⟩;rw[l];show(rel.val k).getD rd
 ·subst ey;cases(show u=z8 b from ry)
  let⟨z,hd,xs,rel,dd⟩:=δC e;refine ZI (γo _) (meetsH_dict_get_default (tupleKind<|bC X.prog X.w) a b hd r) ⟨We hu,k,xs,δD eb,dd,h _ _ (Xx 0) ?_⟩;rw[l];show(rel.val k).getD rd
end
def FG:δu (.builtin "len") (λxs H Q=>∃a kvs,xs=[V.ref a]/\H a=a0 (.dK kvs)/\Q (.int kvs.length) H):=by
 intro b9 s σ H xs us Q I r h;let⟨a,kvs,rfl,ha,q⟩:=h;let⟨u,rfl,ru⟩:=vals1 r;cases ru
 show Q7 I (.inl ha) λt s' I'=>⟨.int kvs.length,H,I',⟨t,rfl⟩,q⟩
abbrev bO:Bool->Keyed->a_ 0->Nat->Nat->Nat->b_ (YJ 0):=sortPriv% PySem.Builtin.gallop
abbrev oE(left:Bool)(key:Keyed)(arr:a_ 0)(base i:Nat):b_ (Y4 0):=do
  let x <-elem' arr (base+i)
  if left then lt' x key else return(<-lt' key x).map (!·)
abbrev zZ(left:Bool)(key:Keyed)(arr:a_ 0)(base n lo hi:Nat):b_ (YJ 0):=do
 let mut lo:=lo
 let mut hi:=hi
 for _ in [0:n] do
  if lo >= hi then break
  let m:=lo+(hi-lo)/2
  let a0 more <-oE left key arr base m|return a7
  if more then lo:=m+1 else hi:=m
 return a0 hi
abbrev Mz(left:Bool)(key:Keyed)(arr:a_ 0)(base n hint:Nat):b_ (YJ 0):=do
 let mut lastofs:=0
 let mut ofs:=1
 let bz:=n-hint
 for _ in [0:n] do
  if ofs >= bz then break
  let a0 more <-oE left key arr base (hint+ofs)|return a7
  if !more then break
  lastofs:=ofs
  ofs:=2*ofs+1
 zZ left key arr base n (hint+lastofs+1) (hint+min ofs bz)
abbrev MA(left:Bool)(key:Keyed)(arr:a_ 0)(base n hint:Nat):b_ (YJ 0):=do
 let mut lastofs:=0
 let mut ofs:=1
 let bz:=hint+1
 for _ in [0:n] do
  if ofs >= bz then break
  let a0 found <-oE left key arr base (hint-ofs)|return a7
  if found then break
  lastofs:=ofs
  ofs:=2*ofs+1
 zZ left key arr base n (hint+1-min ofs bz) (hint-lastofs)
def D5(left)(key)(arr)(base n hint):bO left key arr base n hint=(do
 let a0 right <-oE left key arr base hint|return a7
 if right then Mz left key arr base n hint else MA left key arr base n hint):=rfl
def Q8{lo hi:Nat}(c:¬ lo >= hi):lo+(hi-lo)/2<hi:=⋯
variable{i:Nat}
def Sz{lo hi:Nat}(c:¬ lo >= hi)(a:hi-lo<=n-i):hi-(lo+(hi-lo)/2+1)<=n-(i+1):=⋯
def SB{lo hi:Nat}(c:¬ lo >= hi)(a:hi-lo<=n-i):lo+(hi-lo)/2-lo<=n-(i+1):=⋯
def Q9{h la of:Nat}(a1:la<of)(c:of >= n-h)(a3:h+la<n):h+la+1<=h+min of (n-h)/\h+min of (n-h)<=n/\n<=h+min of (n-h):=⋯
def SC{h la of:Nat}(a1:la<of)(c:¬ of >= n-h):h+of<n/\h+la+1<=h+min of (n-h)/\h+min of (n-h)=h+of:=⋯
def Kw{la of:Nat}(a1:la<of)(a2:i<of):of<2*of+1/\i+1<2*of+1:=⋯
def Qa{h la of:Nat}(a1:la<of)(c:of >= h+1):h+1-min of (h+1)=0:=⋯
def Qb{lo hi:Nat}(a:hi-lo<=n-max 0 n):hi<=lo:=⋯
def SD{h of:Nat}(a:max 0 n<of):of >= n-h:=⋯
def SF{h of:Nat}(hh:h<n)(a:max 0 n<of):of >= h+1:=⋯
def SH{h la of:Nat}(a1:la<of)(c:¬ of >= h+1)(hh:h<n):h-of<n/\h+1-min of (h+1)=h-of+1/\h-of+1<=h-la:=⋯
variable{M:Model}{bey:Nat->Bool}{key:Keyed}{left:Bool}{st:SortSt}
def fB{arr:a_ 0}{base:Nat}{Q:YJ 0->SortSt->Prop}{lo hi:Nat}(hb:∀i,i<n->∀Q':Y4 0->SortSt->Prop,Q' (a0<|bey i) st->j2 (oE left key arr base i) Q' st)(mono:∀i j,i<=j->j<n->bey j=true->bey i=true)(h1:lo<=hi)(h2:hi<=n)(h3:∀i,i<lo->bey i=true)(h4:∀i,hi<=i->i<n->bey i=false)(k:∀r,r<=n->(∀i,i<r->bey i=true)->(∀i,r<=i->i<n->bey i=false)->Q (a0 r) st):
  j2 (zZ left key arr base n lo hi) Q st:=by
 unfold zZ;refine xb<|Ut (λi c aa=>aa=st/\∃lo hi,c=(a7,lo,hi)/\lo<=hi/\hi<=n/\hi-lo<=n-i/\(∀i,i<lo->bey i=true)/\∀i,hi<=i->i<n->bey i=false) (λi c aa _ hi=>?_) (λc aa=>?_) ⟨rfl,lo,hi,rfl,h1,h2,yd (βU _) h2,h3,h4⟩
 ·rintro⟨rfl,lo,hi,rfl,a1,a2,a3,a4,a5⟩;dsimp only;by_cases c:lo >= hi
  ·rw[Xy 0];refine xn<|xn<|k hi a2 (λi q=>a4 i<|xa q c) a5
  ·rw[YC 0];let m1:=Q8 c;let m2:=xa m1 a2;refine xb<|hb (lo+(hi-lo)/2) m2 _ ?_;dsimp only;cases e:bey (lo+(hi-lo)/2) with
   |true=>rw[if_pos rfl];show xn ⟨rfl,_,_,rfl,m1,a2,Sz c a3,λi q=>mono i _ (UW q) m2 e,a5⟩
   |false=>
    rw[if_neg<|by decide];refine xn ⟨rfl,_,_,rfl,Va _ _,zi m2,SB c a3,a4,λi q1 q2=>?_⟩;cases e2:bey i with
    |false=>rfl
    |true=>rw[mono _ i q1 q2 e2]at e;cases e
 ·rintro⟨rfl,lo,hi,rfl,a1,a2,a3,a4,a5⟩;dsimp only;show xn<|k hi a2 (λi q=>a4 i<|xa q<|Qb a3) a5
variable{hint:Nat}
def iA{arr:a_ 0}{base:Nat}{Q:YJ 0->SortSt->Prop}(hb:∀i,i<n->∀Q':Y4 0->SortSt->Prop,Q' (a0<|bey i) st->j2 (oE left key arr base i) Q' st)(mono:∀i j,i<=j->j<n->bey j=true->bey i=true)(hh:hint<n)(k:∀r,r<=n->(∀i,i<r->bey i=true)->(∀i,r<=i->i<n->bey i=false)->Q (a0 r) st):
  j2 (bO left key arr base n hint) Q st:=by
 let fv:∀i j,i<=j->j<n->bey i=false->bey j=false:=λi j h1 h2 h3=>by
  cases e:bey j with
  |false=>rfl
  |true=>rw[mono i j h1 h2 e]at h3;cases h3
 rw[D5];refine xb<|hb hint hh _ ?_;dsimp only;cases e:bey hint with
 |true=>
  rw[if_pos rfl];unfold Mz;refine xb<|Ut (λi c aa=>aa=st/\∃la of,c=(a7,la,of)/\la<of/\i<of/\hint+la<n/\bey (hint+la)=true) (λi c aa _ hi=>?_) (λc aa=>?_) ⟨rfl,0,1,rfl,Nat.zero_lt_one,Nat.zero_lt_one,hh,e⟩
  ·rintro⟨rfl,la,of,rfl,a1,a2,a3,a4⟩;dsimp only;by_cases c:of >= n-hint
   ·rw[Xy 0];refine xn ?_;dsimp only;let⟨b1,b2,b3⟩:=Q9 a1 c a3;show αD b1 b2 (λi q=>mono i _ (UW q) a3 a4) (λi q1 q2=>absurd q2<|Nat.not_lt_of_le<|yd b3 q1) k
   ·rw[YC 0];let⟨b1,b2,b3⟩:=SC a1 c;refine xb<|hb (hint+of) b1 _ ?_;dsimp only;cases e2:bey (hint+of) with
    |true=>rw[if_neg<|by decide];show xn ⟨rfl,_,_,rfl,(Kw a1 a2).1,(Kw a1 a2).2,b1,e2⟩
    |false=>rw[if_pos<|by decide];refine xn ?_;dsimp only;show αD b2 (zi<|b3▸b1) (λi q=>mono i _ (UW q) a3 a4) (λi q1 q2=>fv _ i (b3▸q1) q2 e2) k
  ·rintro⟨rfl,la,of,rfl,a1,a2,a3,a4⟩;dsimp only;let⟨b1,b2,b3⟩:=Q9 a1 (SD a2) a3;show αD b1 b2 (λi q=>mono i _ (UW q) a3 a4) (λi q1 q2=>absurd q2<|Nat.not_lt_of_le<|yd b3 q1) k
 |false=>
  rw[if_neg<|by decide];unfold MA;refine xb<|Ut (λi c aa=>aa=st/\∃la of,c=(a7,la,of)/\la<of/\i<of/\la<=hint/\bey (hint-la)=false) (λi c aa _ hi=>?_) (λc aa=>?_) ⟨rfl,0,1,rfl,Nat.zero_lt_one,Nat.zero_lt_one,zk _,e⟩
  ·rintro⟨rfl,la,of,rfl,a1,a2,a3,a4⟩;dsimp only;let b4:=yd (Nat.sub_le hint la)<|zi hh;by_cases c:of >= hint+1
   ·rw[Xy 0];refine xn ?_;dsimp only;let b1:=Qa a1 c;show αD (b1▸zk _) b4 (λi q=>absurd (b1▸q)<|Nat.not_lt_zero _) (λi q1 q2=>fv _ i q1 q2 a4) k
   ·rw[YC 0];let⟨b1,b2,b3⟩:=SH a1 c hh;refine xb<|hb (hint-of) b1 _ ?_;dsimp only;cases e2:bey (hint-of) with
    |true=>rw[if_pos rfl];refine xn ?_;dsimp only;show αD (b2▸b3) b4 (λi q=>mono i (hint-of) (UW<|Nat.lt_of_lt_of_eq q b2) b1 e2) (λi q1 q2=>fv _ i q1 q2 a4) k
    |false=>rw[if_neg<|by decide];show xn ⟨rfl,_,_,rfl,(Kw a1 a2).1,(Kw a1 a2).2,UW<|Nat.lt_of_not_le c,e2⟩
  ·rintro⟨rfl,la,of,rfl,a1,a2,a3,a4⟩;dsimp only;let b1:=Qa a1<|SF hh a2;show αD (b1▸zk _) (yd (Nat.sub_le hint la)<|zi hh) (λi q=>absurd (b1▸q)<|Nat.not_lt_zero _) (λi q1 q2=>fv _ i q1 q2 a4) k
abbrev uN:a_ 0->a_ 0->b_ (a_ 0):=sortPriv% PySem.Builtin.mergeLo
@[reducible]noncomputable def qX(g:Nat)(st:SortSt):SortSt:=SortSt.mk' (WU 0) (arrOf st) (y3 st) g<|VQ st
abbrev bD(g:Nat):b_ Unit:=modify<|qX g
abbrev cQ(a b:a_ 0)(out:a_ 0)(ia ib:Nat):=out++X6 a.size++b.extract ib b.size
abbrev fX(a b:a_ 0)(out:a_ 0)(ia ib:Nat):=out++b.extract ib b.size++X6 a.size
def Bo(a b):uN a b=(do
 rule "list.sort.merge-lo"
 let total:=a.size+b.size
 let mut out:a_ 0:=#[<-Xz 0]
 let mut ia:=0
 let mut ib:=1
 if ib == b.size then return cQ a b out ia ib
 if ia+1 == a.size then return fX a b out ia ib
 let mut minGallop:=gallopOf<|<-get
 for _ in [0:total] do
  let mut acount:=0
  let mut bcount:=0
  for _ in [0:total] do
   let a0 bWins <-lt' (<-Xz ib) (<-XA ia)|return δE ib
   if bWins then
    out:=out.push<|<-Xz ib;ib:=ib+1;bcount:=bcount+1;acount:=0
    if ib == b.size then return cQ a b out ia ib
    if bcount >= minGallop then break
   else
    out:=out.push<|<-XA ia;ia:=ia+1;acount:=acount+1;bcount:=0
    if ia+1 == a.size then return fX a b out ia ib
    if acount >= minGallop then break
  rule "list.sort.gallop"
  minGallop:=minGallop+1
  for _ in [0:total] do
   if minGallop>1 then minGallop:=minGallop-1
   bD minGallop
   let a0 k <-αE (<-Xz ib) a ia (a.size-ia) 0|return δE ib
   acount:=k
   if k>0 then
    out:=out++X6 (ia+k);ia:=ia+k
    if ia+1 == a.size then return fX a b out ia ib
    if ia == a.size then return cQ a b out ia ib
   out:=out.push<|<-Xz ib;ib:=ib+1
   if ib == b.size then return cQ a b out ia ib
   let a0 k <-βD (<-XA ia) b ib (b.size-ib) 0|return δE ib
   bcount:=k
   if k>0 then
    out:=out++b.extract ib (ib+k);ib:=ib+k
    if ib == b.size then return cQ a b out ia ib
   out:=out.push<|<-XA ia;ia:=ia+1
   if ia+1 == a.size then return fX a b out ia ib
   if acount<7&&bcount<7 then break
  minGallop:=minGallop+1
  bD minGallop
 unsupported "internal:list.sort.merge-bound"):=rfl
structure Ask(M:Model)(A:d_)(E:(d6->d7->Prop))(s:d7)(κ:VR)(pr:Nat->Keyed)(n:Nat)(lt:Nat->Nat->Bool):Prop where
 tr:∀i j k,i<n->j<n->k<n->lt j i=false->lt k j=false->lt k i=false
 as:∀i j,i<n->j<n->lt i j=true->lt j i=false
 run:∀(st:SortSt) i j,kindOf st=κ->i<n->j<n->∀Q:jh Bool->SortSt->Prop,Q (some (lt i j)) st->wpS M A E s (lt' (pr i) (pr j)) Q st
abbrev arr(pr:Nat->Keyed)(l:v_ 0):a_ 0:=(l.map pr).toArray
def cR(pr)(l):(d9 l).size=l.length:=by simp[arr]
def fP(pr)(l)(i):(d9 l).push (pr i)=d9 (l++[i]):=by simp[arr]
def dU(pr)(l m):d9 l++d9 m=d9 (l++m):=by simp[arr]
def cM(pr)(l)(i j):(d9 l).extract i j=d9 ((l.drop i).take<|j-i):=by unfold arr;rw[List.extract_toArray,List.map_take,List.map_drop]
variable{l:v_ 0}{pr:Nat->Keyed}
def aN{Q:Keyed->SortSt->Prop}(hi:i<l.length)(h:Q (pr<|l.getD i 0) st):j2 (elem' (d9 l) i) Q st:=by
 rw[elem'_eq];let e:(d9 l)[i]?=a0 (pr<|l.getD i 0):=by simp[arr,hi]
 rw[e];show xn h
structure MI(lt:Nat->Nat->Bool)(la lb lo:i_ Nat)(ia ib:Nat):Prop where
 perm:(lo++(la.drop ia++lb.drop ib)).Perm (la++lb)
 srt:lo.Pairwise λi j=>lt j i=false
 low:∀o∈lo,∀x∈la.drop ia++lb.drop ib,lt x o=false
structure Two(lt:Nat->Nat->Bool)(n:Nat)(la lb:i_ Nat):Prop where
 sa:la.Pairwise λi j=>lt j i=false
 sb:lb.Pairwise λi j=>lt j i=false
 na:∀x∈la,x<n
 nb:∀x∈lb,x<n
abbrev Mgd(pr:Nat->Keyed)(lt:Nat->Nat->Bool)(la lb:v_ 0)(out:a_ 0):Prop:=∃lo:v_ 0,out=d9 lo/\lo.Perm (la++lb)/\lo.Pairwise λi j=>lt j i=false
def dN{R:Nat->Nat->Prop}(h:l.Pairwise R)(k):(l.drop k).Pairwise R:=h.sublist<|List.drop_sublist k l
def Bp{R:Nat->Nat->Prop}(h:l.Pairwise R)(i k):∀x∈(l.drop i).take k,∀y∈l.drop (i+k),R x y:=λx X y H=>by let d:=dN h i;rw[<-yn k (l.drop i)]at d;rw[<-List.drop_drop]at H;show(w8.mp d).2.2 x X y H
def kM(l:v_ 0)(i k):l.drop i=(l.drop i).take k++l.drop (i+k):=by rw[<-List.drop_drop,yn]
variable{ia ib:Nat}{la lb:v_ 0}
def MI.pushA{lt:Nat->Nat->Bool}{lo:v_ 0}(m:n_ 0)(t:s_ 0){k:Nat}(h:∀x∈(β2 0).take k,∀y∈lb.drop ib,lt y x=false):ZO (lo++(β2 0).take k) (ia+k) ib:=by
 let s:∀x∈la.drop _,x∈β2 0:=λx H=>by rw[kM la ia k];show v9 _ H
 refine⟨?_,?_,?_⟩
 ·refine Vj ?_ m.perm;rw[wy];refine yf _ ?_;rw[<-wy,<-kM]
 ·rw[w8];show⟨m.srt,(dN t.sa ia).sublist<|List.take_sublist k _,λo O x H=>m.low o O x<|xr _<|(λx H=>yc H) x H⟩
 ·intro o O x H;rcases wg.mp O with q|q
  ·refine m.low o q x ?_;rcases wg.mp H with z|z
   ·show xr _ (s x z)
   ·show v9 _ z
  ·rcases wg.mp H with z|z
   ·show Bp t.sa ia k o q x z
   ·show h o q x z
def MI.pushB{lt:Nat->Nat->Bool}{lo:v_ 0}(m:n_ 0)(t:s_ 0){k:Nat}(h:∀x∈(lb.drop ib).take k,∀y∈la.drop ia,lt y x=false):ZO (lo++(lb.drop ib).take k) ia (ib+k):=by
 let s:∀x∈lb.drop _,x∈lb.drop ib:=λx H=>by rw[kM lb ib k];show v9 _ H
 refine⟨?_,?_,?_⟩
 ·refine Vj ?_ m.perm;rw[wy];refine yf _ <|(List.perm_append_comm_assoc _ _ _).trans ?_;rw[<-kM]
 ·rw[w8];show⟨m.srt,(dN t.sb ib).sublist<|List.take_sublist k _,λo O x H=>m.low o O x<|v9 _<|(λx H=>yc H) x H⟩
 ·intro o O x H;rcases wg.mp O with q|q
  ·refine m.low o q x ?_;rcases wg.mp H with z|z
   ·show xr _ z
   ·show v9 _ (s x z)
  ·rcases wg.mp H with z|z
   ·show h o q x z
   ·show Bp t.sb ib k o q x z
def cH(h:i<l.length):(l.drop i).take 1=[δF 0]:=by rw[zg h,xo,Uc h];rfl
def MI.done{lt:Nat->Nat->Bool}{lo:v_ 0}(m:n_ 0)(t:s_ 0)(h:ia=la.length\/ib=lb.length):u_ (cQ (d9 la) (d9 lb) (d9 lo) ia ib):=by
 refine⟨lo++β2 0++lb.drop ib,?_,by rw[wy];show m.perm,?_⟩
 ·unfold cQ;rw[cM,cM,dU,dU,cR,cR,zq<|by simp,zq<|by simp]
 ·rw[wy,w8];refine⟨m.srt,?_,m.low⟩;rw[w8];refine⟨dN t.sa _,dN t.sb _,λx H y Y=>?_⟩;rcases h with h|h
  ·rw[h]at H;simp at H
  ·rw[h]at Y;simp at Y
def MI.last{lt:Nat->Nat->Bool}{lo:v_ 0}(m:n_ 0)(t:s_ 0)(h:ia+1=la.length)(o:∀x∈lb,lt (Xg 0) x=false):u_ (fX (d9 la) (d9 lb) (d9 lo) ia ib):=by
 let ed:β2 0=[Xg 0]:=by rw[<-cH ⋯,zq (by rw[yx];omega)]
 refine⟨lo++lb.drop ib++β2 0,?_,?_,?_⟩
 ·unfold fX;rw[cM,cM,dU,dU,cR,cR,zq<|by simp,zq<|by simp]
 ·refine Vj ?_ m.perm;rw[wy];show yf _ Wg
 ·rw[wy,w8];refine⟨m.srt,?_,λo ho x t=>m.low o ho x (by rcases wg.mp t with z|z;show v9 _ z;show xr _ z)⟩;rw[w8];refine⟨dN t.sb _,dN t.sa _,λx t y y=>?_⟩;rw[ed]at y;simp at y;rw[y];have:=o x<|y2 t;simpa using this
variable{κ:VR}
section
variable{lt:Nat->Nat->Bool}
abbrev Sg(st aa:SortSt):Prop:=kindOf aa=WU 0/\arrOf aa=arrOf st/\y3 aa=y3 st/\VQ aa=VQ st
def Sg.refl(st:SortSt):WT st:=⟨rfl,rfl,rfl,rfl⟩
def kN{g:Nat}{Q:Unit->SortSt->Prop}(h:Q () (qX g st)):j2 (bD g) Q st:=wpS_modify h
def jV{x:String}{Q:Unit->SortSt->Prop}(h:Q () st):j2 (liftM (rule x):b_ Unit) Q st:=wpS_lift<|WE ⟨rfl,h⟩
def FH(O:a9 0)(S:l.Pairwise λi j=>lt j i=false)(N:∀x∈l,x<n){y:Nat}(Y:y<n)(hi:i<l.length)(K:WU 0=κ){Q:YJ 0->SortSt->Prop}(k:∀r,i+r<=l.length->(∀x∈(l.drop i).take r,lt y x=false)->(∀x∈l.drop (i+r),lt y x=true)->Q (a0 r) st):j2 (αE (pr y) (d9 l) i (l.length-i) 0) Q st:=by
 let t:∀j,j<l.length->l.getD j 0∈l:=λj h=>by
  have:l.getD j 0=l[j]:=by simp[h]
  rw[this];show xt h
 refine iA (bey:=λj=>!lt y (l.getD (i+j) 0)) (λj h o p=>?_) (λa b u z H=>?_) ⋯ (λr u z H=>k r ⋯ (λx X=>?_) (λx X=>?_))
 ·refine xb (aN ⋯ ?_);refine xb<|O.run st _ _ K Y (N _<|t _ ⋯) _ ?_;show xn p
 ·rw[VV]at H⊢;by_cases e:a=b
  ·subst e;show H
  ·let q:=zh.mp S (i+a) (i+b) ⋯ ⋯ ⋯;let w:l.getD (i+a) 0=l[i+a]:=by simp[show i+a<l.length by omega]
   let v:l.getD (i+b) 0=l[i+b]:=by simp[show i+b<l.length by omega]
   rw[v]at H;rw[w];show WQ (N _<|xt _) (N _<|xt _) Y q H
 ·let⟨j,h,rfl⟩:=zu X;rw[ya,yx]at h;have:=z j ⋯;rw[Vy];simpa[show i+j<l.length by omega] using this
 ·let⟨j,h,rfl⟩:=zu X;rw[yx]at h;have:=H (r+j) ⋯ ⋯;let e:i+(r+j)=i+r+j:=⋯
  rw[e]at this;simpa[show i+r+j<l.length by omega] using this
def Bq(O:a9 0)(S:l.Pairwise λi j=>lt j i=false)(N:∀x∈l,x<n){y c:Nat}(Y:y<n)(C:i+c<=l.length)(hi:hint<c)(K:WU 0=κ){Q:YJ 0->SortSt->Prop}(k:∀r,r<=c->(∀x∈(l.drop i).take r,Z6 y=true)->(∀j,r<=j->j<c->lt (l.getD (i+j) 0) y=false)->Q (a0 r) st):j2 (βD (pr y) (d9 l) i c hint) Q st:=by
 let t:∀j,j<l.length->l.getD j 0∈l:=λj H=>by
  have:l.getD j 0=l[j]:=by simp[H]
  rw[this];show xt H
 refine iA (bey:=λj=>lt (l.getD _ 0) y) (λj H o p=>?_) (λa b w v h=>?_) hi<|λr w v h=>k r w (λx X=>?_) h
 ·refine xb (aN ⋯ ?_);show O.run st _ _ K (N _<|t _ ⋯) Y _ p
 ·by_cases e:a=b
  ·subst e;show h
  ·let u:l.getD (i+a) 0=l[i+a]:=by simp[show i+a<l.length by omega]
   let q:l.getD (i+b) 0=l[i+b]:=by simp[show i+b<l.length by omega]
   change lt (l.getD _ 0) y=true
   let h:lt (l.getD _ 0) y=true:=h;rw[q]at h;rw[u];cases z:lt l[i+a] y with
   |true=>rfl
   |false=>have:=O.tr y _ _ Y (N _<|xt _) (N _<|xt _) z<|zh.mp S (i+a) (i+b) ⋯ ⋯ ⋯;rw[this]at h;cases h
 ·let⟨j,H,rfl⟩:=zu X;rw[ya]at H;have:lt (l.getD _ 0) y=true:=v j ⋯;simpa[show i+j<l.length by omega] using this
end
abbrev NP(a b:a_ 0)(na nb g ac bc ia:Nat)(out:a_ 0)(ib:Nat):b_ (ForInStep<|jh (a_ 0)×a_ 0×Nat×Nat×Nat×Nat×Nat):=do
 let z <-XA ia
 if ia+1+1 == na then pure (.done (a0<|fX a b (Cc 0) (ia+1) ib,Cc 0,ia+1,ib,g,ac,bc))
 else if ac<7&&bc<7 then pure (.done (a7,Cc 0,ia+1,ib,g,ac,bc))
 else pure<|.yield (a7,Cc 0,ia+1,ib,g,ac,bc)
abbrev NQ(a b:a_ 0)(na nb g ac bc ib:Nat)(out:a_ 0)(ia:Nat):b_ (ForInStep<|jh (a_ 0)×a_ 0×Nat×Nat×Nat×Nat×Nat):=do
 let z <-Xz ib
 if ib+1 == nb then pure (.done (a0<|cQ a b (Cc 0) ia<|ib+1,Cc 0,ia,ib+1,g,ac,bc))
 else
  let a0 k <-βD (<-XA ia) b (ib+1) (nb-(ib+1)) 0|pure (.done (a0<|cQ a b (Cc 0) ia<|ib+1,Cc 0,ia,ib+1,g,ac,bc))
  if k>0 then
   if ib+1+k == nb then pure (.done (a0<|cQ a b (Cc 0++b.extract (ib+1) (ib+1+k)) ia<|ib+1+k,Cc 0++b.extract (ib+1) (ib+1+k),ia,ib+1+k,g,ac,k))
   else NP a b na nb g ac k ia (Cc 0++b.extract (ib+1) (ib+1+k))<|ib+1+k
  else NP a b na nb g ac k ia (Cc 0)<|ib+1
abbrev Kx(a b:a_ 0)(na nb:Nat)(out:a_ 0)(ia ib ac bc g:Nat):b_ (ForInStep<|jh (a_ 0)×a_ 0×Nat×Nat×Nat×Nat×Nat):=do
 bD g
 let a0 k <-αE (<-Xz ib) a ia (na-ia) 0|pure (.done (a0<|cQ a b out ia ib,out,ia,ib,g,ac,bc))
 if k>0 then
  if ia+k+1 == na then pure (.done (a0<|fX a b (out++X6 (ia+k)) (ia+k) ib,out++X6 (ia+k),ia+k,ib,g,k,bc))
  else if ia+k == na then pure (.done (a0<|cQ a b (out++X6 (ia+k)) (ia+k) ib,out++X6 (ia+k),ia+k,ib,g,k,bc))
  else NQ a b na nb g k bc ib (out++X6 (ia+k))<|ia+k
 else NQ a b na nb g k bc ib out ia
abbrev NR(a b:a_ 0)(na nb g:Nat)(c:jh (a_ 0)×a_ 0×Nat×Nat×Nat×Nat):b_ (ForInStep<|jh (a_ 0)×a_ 0×Nat×Nat×Nat×Nat):=do
 let a0 w <-lt' (<-Xz c.2.2.2.1) (<-XA c.2.2.1)|pure (.done (a0<|cQ a b c.2.1 c.2.2.1 c.2.2.2.1,c.2))
 if w then
  let z <-Xz c.2.2.2.1
  if c.2.2.2.1+1 == nb then pure (.done (a0<|cQ a b (c.2.1.push z) c.2.2.1<|c.2.2.2.1+1,c.2.1.push z,c.2.2.1,c.2.2.2.1+1,0,c.2.2.2.2.2+1))
  else if c.2.2.2.2.2+1 >= g then pure (.done (a7,c.2.1.push z,c.2.2.1,c.2.2.2.1+1,0,c.2.2.2.2.2+1))
  else pure<|.yield (a7,c.2.1.push z,c.2.2.1,c.2.2.2.1+1,0,c.2.2.2.2.2+1)
 else
  let z <-XA c.2.2.1
  if c.2.2.1+1+1 == na then pure (.done (a0<|fX a b (c.2.1.push z) (c.2.2.1+1) c.2.2.2.1,c.2.1.push z,c.2.2.1+1,c.2.2.2.1,c.2.2.2.2.1+1,0))
  else if c.2.2.2.2.1+1 >= g then pure (.done (a7,c.2.1.push z,c.2.2.1+1,c.2.2.2.1,c.2.2.2.2.1+1,0))
  else pure<|.yield (a7,c.2.1.push z,c.2.2.1+1,c.2.2.2.1,c.2.2.2.2.1+1,0)
abbrev NS(a b:a_ 0)(na nb:Nat)(c:jh (a_ 0)×a_ 0×Nat×Nat×Nat×Nat×Nat):b_ (ForInStep<|jh (a_ 0)×a_ 0×Nat×Nat×Nat×Nat×Nat):=if c.2.2.2.2.1>1 then Kx a b na nb c.2.1 c.2.2.1 c.2.2.2.1 c.2.2.2.2.2.1 c.2.2.2.2.2.2 (c.2.2.2.2.1-1) else Kx a b na nb c.2.1 c.2.2.1 c.2.2.2.1 c.2.2.2.2.2.1 c.2.2.2.2.2.2 c.2.2.2.2.1
abbrev Ig(pr:Nat->Keyed)(lt:Nat->Nat->Bool)(la lb:v_ 0)(st:SortSt)(p:Nat)(c:jh (a_ 0)×a_ 0×Nat×Nat×Nat×Nat×Nat)(aa:SortSt):Prop:=WT aa/\∃lo ia ib g ac bc,c=(a7,d9 lo,ia,ib,g,ac,bc)/\n_ 0/\ia+1<la.length/\ib<lb.length/\p<=ia+ib
abbrev Qg(pr:Nat->Keyed)(lt:Nat->Nat->Bool)(la lb:v_ 0)(st:SortSt)(p:Nat)(c:jh (a_ 0)×a_ 0×Nat×Nat×Nat×Nat×Nat)(aa:SortSt):Prop:=(WT aa/\∃r d,c=(a0 r,d)/\u_ r)\/ZP p c aa
abbrev Rg(pr:Nat->Keyed)(lt:Nat->Nat->Bool)(la lb:v_ 0)(st:SortSt)(p:Nat)(r:ForInStep (jh (a_ 0)×a_ 0×Nat×Nat×Nat×Nat×Nat))(aa:SortSt):Prop:=match r with
 |.done c=>Qg pr lt la lb st p c aa
 |.yield c=>ZP p c aa
variable{ag:SortSt}{j:Nat}{F2:Nat->jh (a_ 0)×a_ 0×Nat×Nat×Nat×Nat×Nat->b_ (ForInStep (jh (a_ 0)×a_ 0×Nat×Nat×Nat×Nat×Nat))}{K2:jh (a_ 0)×a_ 0×Nat×Nat×Nat×Nat×Nat->b_ (ForInStep (jh (a_ 0)×a_ 0×Nat×Nat×Nat))}{aa:SortSt}
section
variable{lt:Nat->Nat->Bool}
def bH{σ α:Type}{c:Prop}[Decidable c]{x y:StateT σ Sem α}{Q:α->σ->Prop}{st:σ}(h1:c->j2 x Q st)(h:¬ c->j2 y Q st):j2 (if c then x else y) Q st:=by
 split
 ·show h1 ‹_›
 ·show h ‹_›
def aO(h:i<l.length):δF 0∈l:=by
 have:δF 0=l[i]:=by simp[h]
 rw[this];show xt h
def pX(O:a9 0)(S:l.Pairwise λi j=>lt j i=false)(N:∀x∈l,x<n){x:Nat}(X:x<n)(hi:i<l.length)(h:lt (δF 0) x=false):∀y∈l.drop i,lt y x=false:=λy H=>by
 let d:=dN S i;rw[zg hi]at d H;let e:δF 0=l[i]:=by simp[hi]
 rw[e]at h;rcases wu.mp H with rfl|q
 ·show h
 ·show WQ X (N _<|xt hi) (N _<|y2 q) h ((zb.mp d).1 y q)
def Two.pa(O:a9 0)(t:s_ 0){lo:v_ 0}(m:n_ 0)(h:ia<la.length)(hb:ib<lb.length)(e:lt (βE 0) (Xg 0)=false):ZO (lo++[Xg 0]) (ia+1) ib:=by
 have:=m.pushA t λx H=>by rw[cH h]at H;simp at H;rw[H];have:=pX O t.sb t.nb (t.na _<|aO h) hb e;simpa using this
 rwa[cH h]at this
def Two.pb(O:a9 0)(t:s_ 0){lo:v_ 0}(m:n_ 0)(a:ia<la.length)(hb:ib<lb.length)(e:lt (βE 0) (Xg 0)=true):ZO (lo++[βE 0]) ia (ib+1):=by
 have:=m.pushB t λx h=>by rw[cH hb]at h;simp at h;rw[h];have:=pX O t.sa t.na (t.nb _<|aO hb) a<|O.as _ _ (t.nb _<|aO hb) (t.na _<|aO a) e;simpa using this
 rwa[cH hb]at this
def Br(O:a9 0)(t:s_ 0)(o:∀x∈lb,lt (la.getD (la.length-1) 0) x=false)(S:WT ag){lo:v_ 0}{p:Nat}(m:n_ 0)(a:ia+1<la.length)(hb:ib<lb.length)(h:∀y∈lb.drop ib,lt y (Xg 0)=false)(P:p<=ia+ib)(g ac bc):j2 (NP (d9 la) (d9 lb) la.length lb.length g ac bc ia (d9 lo) ib) (ZQ p) ag:=by
 refine xb<|aN ⋯ ?_;let z:ZO (lo++[Xg 0]) (ia+1) ib:=by
  have:=m.pushA t λx H=>by rw[cH ⋯]at H;simp at H;rw[H];simpa using h
  rwa[cH ⋯]at this
 rw[fP];refine bH (λc=>?_) λc=>?_
 ·rw[beq_iff_eq]at c;refine xn<|.inl ⟨S,_,_,rfl,z.last t c ?_⟩;have:ia+1=la.length-1:=⋯;rw[this];show o
 rw[beq_iff_eq]at c;refine bH (λC=>?_) λC=>?_
 ·show xn (.inr ⟨S,_,_,_,_,_,_,rfl,z,⋯,hb,⋯⟩)
 ·show xn ⟨S,_,_,_,_,_,_,rfl,z,⋯,hb,⋯⟩
def Bs(O:a9 0)(t:s_ 0)(o:∀x∈lb,lt (la.getD (la.length-1) 0) x=false)(k:WU 0=κ)(S:WT ag){lo:v_ 0}{p:Nat}(m:n_ 0)(a:ia+1<la.length)(hb:ib<lb.length)(h:∀x∈la.drop ia,lt (βE 0) x=true)(P:p<=ia+ib)(g ac bc):j2 (NQ (d9 la) (d9 lb) la.length lb.length g ac bc ib (d9 lo) ia) (ZQ p) ag:=by
 refine xb<|aN hb ?_;let i:Xg 0∈β2 0:=by
  let e:Xg 0=la[ia]:=by simp[show ia<la.length by omega]
  rw[e,zg _];show wa
 let z:=t.pb O m ⋯ hb (h _ i);rw[fP];refine bH (λc=>?_) λc=>?_
 ·rw[beq_iff_eq]at c;show xn<|.inl ⟨S,_,_,rfl,z.done t<|.inr c⟩
 rw[beq_iff_eq]at c;let v:Xg 0<n:=t.na _<|aO ⋯;refine xb<|aN ⋯ (xb<|Bq O t.sb t.nb v ⋯ ⋯ (S.1.trans k) λr f q l=>?_);dsimp only;let R:∀y∈lb.drop (ib+1+r),lt y (Xg 0)=false:=λy Y=>by let⟨j,J,rfl⟩:=zu Y;rw[yx]at J;have:=l (r+j) ⋯ ⋯;rw[show ib+1+(r+j)=ib+1+r+j by omega]at this;simpa[show ib+1+r+j<lb.length by omega] using this
 by_cases w:r>0
 ·rw[if_pos w,cM,dU,show ib+1+r-(ib+1)=r by omega];let u:=z.pushB t λx H=>by let X:=t.nb x<|y2<|yc H;show pX O t.sa t.na X ⋯ (YD X v<|q x H)
  refine bH (λC=>?_) λC=>?_
  ·rw[beq_iff_eq]at C;show xn<|.inl ⟨S,_,_,rfl,u.done t<|.inr C⟩
  rw[beq_iff_eq]at C;show Br O t o S u a ⋯ R ⋯ _ _ _
 ·rw[if_neg w];obtain rfl:r=0:=⋯;show Br O t o S z a ⋯ R ⋯ _ _ _
def Bt(O:a9 0)(t:s_ 0)(top:∀x∈lb,lt (la.getD (la.length-1) 0) x=false)(hk:WU 0=κ)(sg:WT ag){lo:v_ 0}{p:Nat}(m:n_ 0)(ha:ia+1<la.length)(hb:ib<lb.length)(pg:p<=ia+ib)(ac bc g:Nat):j2 (Kx (d9 la) (d9 lb) la.length lb.length (d9 lo) ia ib ac bc g) (ZQ p) ag:=by
 unfold Kx;refine xb<|kN<|xb<|aN hb<|xb<|FH (i:=ia) (st:=qX g ag) O t.sa t.na (t.nb _<|aO hb) ⋯ (sg.1.trans hk) λr a1 a2 a3=>?_;dsimp only;let gf:WT (qX g ag):=sg;by_cases c5:r>0
 ·rw[if_pos c5,cM,dU,show ia+r-ia=r by omega];let m':=m.pushA t (k:=r) λx hx=>pX O t.sb t.nb (t.na x<|y2<|yc hx) hb<|a2 x hx;refine bH (λc6=>?_) λc6=>?_
  ·rw[beq_iff_eq]at c6;refine xn<|.inl ⟨gf,_,_,rfl,m'.last t c6 ?_⟩;have:ia+r=la.length-1:=⋯;rw[this];show top
  rw[beq_iff_eq]at c6;refine bH (λc7=>?_) λc7=>?_
  ·rw[beq_iff_eq]at c7;show xn<|.inl ⟨gf,_,_,rfl,m'.done t<|.inl c7⟩
  rw[beq_iff_eq]at c7;show Bs O t top hk gf m' ⋯ hb a3 ⋯ _ _ _
 ·rw[if_neg c5];obtain rfl:r=0:=⋯;show Bs O t top hk gf m ha hb a3 pg _ _ _
def He(O:a9 0)(t:s_ 0)(lst:∀{lo:v_ 0}{ia ib:Nat},n_ 0->ia+1=la.length->u_ (fX (d9 la) (d9 lb) (d9 lo) ia ib))(hk:WU 0=κ)(sg:WT ag){lo:v_ 0}(m:n_ 0)(ha:ia+1<la.length)(hb:ib<lb.length)(pg:i+1+j<=ia+ib)(ac bc g:Nat):
  j2 (NR (d9 la) (d9 lb) la.length lb.length g (a7,d9 lo,ia,ib,ac,bc)) (λr aa=>match r with
   |.done c=>WT aa/\((∃r d,c=(a0 r,d)/\u_ r)\/∃lo ia ib ac bc,c=(a7,d9 lo,ia,ib,ac,bc)/\n_ 0/\ia+1<la.length/\ib<lb.length/\i+2<=ia+ib)
   |.yield c=>WT aa/\∃lo ia ib ac bc,c=(a7,d9 lo,ia,ib,ac,bc)/\n_ 0/\ia+1<la.length/\ib<lb.length/\i+1+(j+1)<=ia+ib) ag:=by
 unfold NR;dsimp only;refine xb<|aN hb<|xb<|aN ⋯ (xb<|O.run ag _ _ (sg.1.trans hk) (t.nb _<|aO hb) (t.na _<|aO ⋯) _ ?_);dsimp only;cases e:lt (βE 0) (Xg 0) with
 |true=>
  rw[if_pos rfl];refine xb<|aN hb ?_;let m':=t.pb O m ⋯ hb e;rw[fP];refine bH (λc3=>?_) λc3=>?_
  ·rw[beq_iff_eq]at c3;show xn ⟨sg,.inl ⟨_,_,rfl,m'.done t<|.inr c3⟩⟩
  rw[beq_iff_eq]at c3;refine bH (λc4=>?_) λc4=>?_
  ·show xn ⟨sg,.inr ⟨_,_,_,_,_,rfl,m',ha,⋯,⋯⟩⟩
  ·show xn ⟨sg,_,_,_,_,_,rfl,m',ha,⋯,⋯⟩
 |false=>
  rw[if_neg<|by decide];refine xb<|aN ⋯ ?_;let m':=t.pa O m ⋯ hb e;rw[fP];refine bH (λc3=>?_) λc3=>?_
  ·rw[beq_iff_eq]at c3;show xn ⟨sg,.inl ⟨_,_,rfl,lst m' c3⟩⟩
  rw[beq_iff_eq]at c3;refine bH (λc4=>?_) λc4=>?_
  ·show xn ⟨sg,.inr ⟨_,_,_,_,_,rfl,m',⋯,hb,⋯⟩⟩
  ·show xn ⟨sg,_,_,_,_,_,rfl,m',⋯,hb,⋯⟩
def Hf(O:a9 0)(t:s_ 0)(top:∀x∈lb,lt (la.getD (la.length-1) 0) x=false)(hk:WU 0=κ){p:Nat}{c:jh (a_ 0)×a_ 0×Nat×Nat×Nat×Nat×Nat}(hi:ZP p c ag):j2 (NS (d9 la) (d9 lb) la.length lb.length c) (ZQ p) ag:=by let⟨sg,lo,ia,ib,g,ac,bc,rfl,m,ha,hb,pg⟩:=hi;unfold NS;show bH (λ_=>βc<|g-1) λ_=>βc g
def MB{β:Type}{tag:_}{t:Nat}{b1 b2:Bool}{r1 r2:Keyed->a_ 0}{qc:Keyed->SortSt->β}{F:Nat->β->b_ (ForInStep β)}{G:β->b_ (a_ 0)}{Q:a_ 0->SortSt->Prop}(hj:j<l.length)(q1:b1=true->Q (r1<|pr<|l.getD j 0) st)(q2:b2=true->Q (r2<|pr<|l.getD j 0) st)(hF:¬ b1=true->¬ b2=true->j2 (forIn [0:t] (qc (pr<|l.getD j 0) st) F) (λc aa=>j2 (G c) Q aa) st):
  j2 ((liftM (rule tag):b_ Unit) >>= λ_=>elem' (d9 l) j >>= λx=>if b1=true then pure (r1 x) else if b2=true then pure (r2 x) else get >>= λg=>forIn [0:t] (qc x g) F >>= G) Q st:=by
 refine xb<|jV ?_;refine xb<|aN hj ?_;refine bH (λc=>xn<|q1 c) λc1=>bH (λc=>xn<|q2 c) λc2=>xb<|wpS_get<|xb<|hF c1 c2
def Ky(O:a9 0)(t:s_ 0)(top:∀x∈lb,lt (la.getD (la.length-1) 0) x=false)(lst:∀{lo:v_ 0}{ia ib:Nat},n_ 0->ia+1=la.length->u_ (fX (d9 la) (d9 lb) (d9 lo) ia ib))(hk:WU 0=κ){u:Nat}(hu:0<u)(sg:WT aa){lo:v_ 0}{g:Nat}(m:n_ 0)(ha:ia+1<la.length)(hb:ib<lb.length)(pg:i+1<=ia+ib){F1:Nat->jh (a_ 0)×a_ 0×Nat×Nat×Nat×Nat->b_ (ForInStep<|jh (a_ 0)×a_ 0×Nat×Nat×Nat×Nat)}{K:jh (a_ 0)×a_ 0×Nat×Nat×Nat×Nat->b_ (ForInStep<|jh (a_ 0)×a_ 0×Nat×Nat×Nat)}(e1:∀j c,F1 j c=NR (d9 la) (d9 lb) la.length lb.length g c)(e2:∀j c,F2 j c=NS (d9 la) (d9 lb) la.length lb.length c)(k1:∀r d,K (a0 r,d)=pure (.done (a0 r,d.1,d.2.1,d.2.2.1,g)))(k2:∀d,K (a7,d)=((liftM (rule "list.sort.gallop"):b_ Unit) >>= λ_=>forIn [0:u] (a7,d.1,d.2.1,d.2.2.1,g+1,d.2.2.2.1,d.2.2.2.2) F2 >>= K2))(k3:∀r d,K2 (a0 r,d)=pure (.done (a0 r,d.1,d.2.1,d.2.2.1,d.2.2.2.1)))(k4:∀d,K2 (a7,d)=(bD (d.2.2.2.1+1) >>= λ_=>pure<|.yield (a7,d.1,d.2.1,d.2.2.1,d.2.2.2.1+1))):
  j2 (forIn [0:u] (a7,d9 lo,ia,ib,0,0) F1 >>= K) (λr aa=>match r with
   |.done c'=>WT aa/\∃r d,c'=(a0 r,d)/\u_ r
   |.yield c'=>WT aa/\∃lo ia ib g,c'=(a7,d9 lo,ia,ib,g)/\n_ 0/\ia+1<la.length/\ib<lb.length/\i+1+1<=ia+ib) aa:=by
 refine xb<|Vn (Ut (λj c ae=>WT ae/\∃lo ia ib ac bc,c=(a7,d9 lo,ia,ib,ac,bc)/\n_ 0/\ia+1<la.length/\ib<lb.length/\i+1+j<=ia+ib) (Q:=λc ae=>WT ae/\((∃r d,c=(a0 r,d)/\u_ r)\/∃lo ia ib ac bc,c=(a7,d9 lo,ia,ib,ac,bc)/\n_ 0/\ia+1<la.length/\ib<lb.length/\i+2<=ia+ib)) (λj c ae _ hj=>?_) (λc ae=>?_) ⟨sg,lo,ia,ib,0,0,rfl,m,ha,hb,⋯⟩) λc ae hq=>?_
 ·rintro⟨sg,lo,ia,ib,ac,bc,rfl,m,ha,hb,pg⟩;rw[e1];show Vn (He O t lst hk sg m ha hb pg ac bc g) λr _ h=>by cases r <;> exact h
 ·rintro⟨sg,lo,ia,ib,ac,bc,rfl,m,ha,hb,pg⟩;show⟨sg,.inr ⟨_,_,_,_,_,rfl,m,ha,hb,⋯⟩⟩
 ·obtain⟨sg,⟨r,d,rfl,mg⟩|⟨lo,ia,ib,ac,bc,rfl,m,ha,hb,pg⟩⟩:=hq
  ·rw[k1];show xn ⟨sg,_,_,rfl,mg⟩
  rw[k2];refine xb<|jV ?_;refine xb<|Vn (Ut (λj c ae=>ZP (i+2) c ae) (Q:=Qg pr lt la lb st<|i+2) (λj c ae _ hj=>?_) (λc ae h=>.inr h) ⟨sg,lo,ia,ib,_,ac,bc,rfl,m,ha,hb,pg⟩) λc ae hq=>?_
  ·rw[e2];show λhi=>Vn (Hf O t top hk hi) λr _ h=>by cases r <;> exact h
  ·rcases hq with⟨sg,r,d,rfl,mg⟩|⟨sg,lo,ia,ib,g,ac,bc,rfl,m,ha,hb,pg⟩
   ·rw[k3];show xn ⟨sg,_,_,rfl,mg⟩
   ·rw[k4];show xb<|kN<|xn ⟨sg,_,_,_,_,rfl,m,ha,hb,⋯⟩
def Bu(O:a9 0)(t:s_ 0)(h1:0<la.length)(h2:0<lb.length)(first:lt (Yq 0) (la.getD 0 0)=true)(top:∀x∈lb,lt (la.getD (la.length-1) 0) x=false)(hk:WU 0=κ){Q:a_ 0->SortSt->Prop}(k:∀out aa,WT aa->u_ out->Q out aa):j2 (uN (d9 la)<|arr pr lb) Q st:=by
 let m0:ZO [] 0 0:=⟨by simp,UT,λo ho=>by simp at ho⟩;let m1:=t.pb O m0 h1 h2 first
 let lst:∀{lo:v_ 0}{ia ib:Nat},n_ 0->ia+1=la.length->u_ (fX (d9 la) (d9 lb) (d9 lo) ia ib):=λ{lo ia ib} m h=>m.last t h (by
  have:ia=la.length-1:=⋯;rw[this];show top)
 rw[Bo,cR,cR];refine MB (l:=lb) (j:=0) h2 (λc1=>A5 (Sg.refl _)<|m1.done t<|.inr<|beq_iff_eq.mp c1) (λc2=>A5 (Sg.refl _)<|lst m1<|beq_iff_eq.mp c2) λc1 c2=>?_;rw[beq_iff_eq]at c1 c2;refine Vn (Ut (λi c aa=>WT aa/\∃lo ia ib g,c=(a7,d9 lo,ia,ib,g)/\n_ 0/\ia+1<la.length/\ib<lb.length/\i+1<=ia+ib) (Q:=λc aa=>WT aa/\∃r d,c=(a0 r,d)/\u_ r) (λi c aa _ _=>?_) (λc aa=>?_) ⟨Sg.refl _,[Yq 0],0,1,_,rfl,m1,⋯,⋯,⋯⟩) λc aa hq=>?_
 ·rintro⟨sg,lo,ia,ib,g,rfl,m,ha,hb,pg⟩;show Vn (Ky O t top lst hk (u:=la.length+lb.length) ⋯ sg m ha hb pg (λ_ _=>rfl) (λ_ _=>rfl) (λ_ _=>rfl) (λ_=>rfl) (λ_ _=>rfl) (λ_=>rfl)) λr _ h=>by cases r <;> exact h
 ·rintro⟨sg,lo,ia,ib,g,rfl,m,ha,hb,pg⟩;omega
 ·let⟨sg,r,d,rfl,mg⟩:=hq;show xn<|k _ _ sg mg
end
abbrev uO:a_ 0->a_ 0->b_ (a_ 0):=sortPriv% PySem.Builtin.mergeHi
abbrev cS(a b:a_ 0)(out:a_ 0)(na nb:Nat):=a.extract 0 na++b.extract 0 nb++out.reverse
abbrev gP(a b:a_ 0)(out:a_ 0)(na nb:Nat):=b.extract 0 nb++a.extract 0 na++out.reverse
def Bv(a b):uO a b=(do
 rule "list.sort.merge-hi"
 let total:=a.size+b.size
 let mut na:=a.size-1
 let mut nb:=b.size
 let mut out:a_ 0:=#[<-XA na]
 if na == 0 then return XB 0
 if nb == 1 then return βd nb
 let mut minGallop:=gallopOf<|<-get
 for _ in [0:total] do
  let mut acount:=0
  let mut bcount:=0
  for _ in [0:total] do
   let a0 aWins <-lt' (<-Xz (nb-1)) (<-XA (na-1))|return XB 0
   if aWins then
    na:=na-1;out:=out.push<|<-XA na;acount:=acount+1;bcount:=0
    if na == 0 then return XB 0
    if acount >= minGallop then break
   else
    nb:=nb-1;out:=out.push<|<-Xz nb;bcount:=bcount+1;acount:=0
    if nb == 1 then return βd nb
    if bcount >= minGallop then break
  rule "list.sort.gallop"
  minGallop:=minGallop+1
  for _ in [0:total] do
   if minGallop>1 then minGallop:=minGallop-1
   bD minGallop
   let a0 at_ <-αE (<-Xz (nb-1)) a 0 na (na-1)|return XB 0
   let k:=na-at_
   acount:=k
   if k>0 then
    out:=out++(βe na).reverse;na:=at_
    if na == 0 then return XB 0
   nb:=nb-1;out:=out.push<|<-Xz nb
   if nb == 1 then return βd nb
   let a0 at_ <-βD (<-XA (na-1)) b 0 nb (nb-1)|return XB 0
   let k:=nb-at_
   bcount:=k
   if k>0 then
    out:=out++(YZ nb).reverse;nb:=at_
    if nb == 1 then return βd nb
    if nb == 0 then return XB 0
   na:=na-1;out:=out.push<|<-XA na
   if na == 0 then return XB 0
   if acount<7&&bcount<7 then break
  minGallop:=minGallop+1
  bD minGallop
 unsupported "internal:list.sort.merge-bound"):=rfl
@[reducible]noncomputable def D2:=jh (a_ 0)×Nat×Nat×a_ 0×Nat×Nat×Nat
abbrev NT(a b:a_ 0)(g ac bc na nb:Nat)(out:a_ 0):b_ (αZ 0):=do
 let z <-XA (na-1)
 if na-1 == 0 then pure (.done (a0<|cS a b (Cc 0) (na-1) nb,na-1,nb,Cc 0,g,ac,bc))
 else if ac<7&&bc<7 then pure (.done (a7,na-1,nb,Cc 0,g,ac,bc))
 else pure<|.yield (a7,na-1,nb,Cc 0,g,ac,bc)
abbrev Kz(a b:a_ 0)(g ac bc nb na:Nat)(out:a_ 0):b_ (αZ 0):=do
 let z <-Xz (nb-1)
 if nb-1 == 1 then pure (.done (a0<|gP a b (Cc 0) na<|nb-1,na,nb-1,Cc 0,g,ac,bc))
 else
  let a0 at_ <-βD (<-XA (na-1)) b 0 (nb-1) (nb-1-1)|pure (.done (a0<|cS a b (Cc 0) na<|nb-1,na,nb-1,Cc 0,g,ac,bc))
  if nb-1-at_>0 then
   if at_ == 1 then pure (.done (a0<|gP a b (Cc 0++(YZ<|nb-1).reverse) na at_,na,at_,Cc 0++(YZ<|nb-1).reverse,g,ac,nb-1-at_))
   else if at_ == 0 then pure (.done (a0<|cS a b (Cc 0++(YZ<|nb-1).reverse) na at_,na,at_,Cc 0++(YZ<|nb-1).reverse,g,ac,nb-1-at_))
   else NT a b g ac (nb-1-at_) na at_<|out.push z++(YZ<|nb-1).reverse
  else NT a b g ac (nb-1-at_) na (nb-1)<|out.push z
abbrev KA(a b:a_ 0)(out:a_ 0)(na nb ac bc g:Nat):b_ (αZ 0):=do
 bD g
 let a0 at_ <-αE (<-Xz (nb-1)) a 0 na (na-1)|pure (.done (a0<|cS a b out na nb,na,nb,out,g,ac,bc))
 if na-at_>0 then
  if at_ == 0 then pure (.done (a0<|cS a b (out++(βe na).reverse) at_ nb,at_,nb,out++(βe na).reverse,g,na-at_,bc))
  else Kz a b g (na-at_) bc nb at_<|out++(βe na).reverse
 else Kz a b g (na-at_) bc nb na out
def tN(pr)(l):(d9 l).reverse=d9 l.reverse:=by simp[arr]
structure MH(lt:Nat->Nat->Bool)(la lb lo:i_ Nat)(na nb:Nat):Prop where
 perm:(la.take na++(lb.take nb++lo)).Perm (la++lb)
 srt:lo.Pairwise λi j=>lt i j=false
 hi:∀o∈lo,∀x∈la.take na++lb.take nb,lt o x=false
variable{na nb:Nat}
section
variable{lt:Nat->Nat->Bool}{lo:v_ 0}{k:Nat}
def dY{k:Nat}(h:i<=k):l.take k=l.take i++(l.take k).drop i:=by have:=yn i<|l.take k;rw[List.take_take,Nat.min_eq_left h]at this;show this.symm
def eN{R:Nat->Nat->Prop}(h:l.Pairwise R)(k):(l.take k).Pairwise R:=h.sublist<|List.take_sublist k l
def Ed{R:Nat->Nat->Prop}(h:l.Pairwise R){k:Nat}(hi:i<=k):∀x∈(l.take k).drop i,∀y∈l.take i,R y x:=λx H y Y=>by let t:=eN h k;rw[dY hi]at t;show(w8.mp t).2.2 y Y x H
def MH.pushA(m:q7 0)(t:s_ 0)(K:k<=na)(h:∀x∈(α0 0).drop k,∀y∈lb.take nb,Z6 y=false):αT (lo++((α0 0).drop k).reverse) k nb:=by
 let s:∀x∈la.take k,x∈α0 0:=λx H=>by rw[dY K];show xr _ H
 refine⟨?_,?_,?_⟩
 ·refine Vj ?_ m.perm
  conv=>rhs;rw[dY K,wy]
  refine yf _ ?_;let p:(α1 0++(lo++((α0 0).drop k).reverse)).Perm ((α1 0++lo)++(α0 0).drop k):=by rw[<-wy];show yf _<|Uq _
  show p.trans Wg
 ·rw[w8];refine⟨m.srt,?_,λo O x H=>m.hi o O x<|xr _<|(λx H=>y2 H) x<|Uo.mp H⟩;rw[Ug];show(eN t.sa na).sublist (List.drop_sublist k _)
 ·intro o O x H;rcases wg.mp O with q|q
  ·refine m.hi o q x ?_;rcases wg.mp H with z|z
   ·show xr _ (s x z)
   ·show v9 _ z
  ·let q:=Uo.mp q;rcases wg.mp H with z|z
   ·show Ed t.sa K o q x z
   ·show h o q x z
def MH.pushB(m:q7 0)(t:s_ 0)(K:k<=nb)(h:∀x∈(α1 0).drop k,∀y∈la.take na,Z6 y=false):αT (lo++((α1 0).drop k).reverse) na k:=by
 let s:∀x∈lb.take k,x∈α1 0:=λx H=>by rw[dY K];show xr _ H
 refine⟨?_,?_,?_⟩
 ·refine Vj (yf _ ?_) m.perm;let p:(lb.take k++(lo++((α1 0).drop k).reverse)).Perm (lb.take k++((α1 0).drop k++lo)):=by show yf _ <|(yf _<|Uq _).trans Wg
  refine p.trans ?_;rw[<-wy,<-dY K]
 ·rw[w8];refine⟨m.srt,?_,λo O x H=>m.hi o O x<|v9 _<|(λx H=>y2 H) x<|Uo.mp H⟩;rw[Ug];show(eN t.sb nb).sublist (List.drop_sublist k _)
 ·intro o O x H;rcases wg.mp O with q|q
  ·refine m.hi o q x ?_;rcases wg.mp H with z|z
   ·show xr _ z
   ·show v9 _ (s x z)
  ·let q:=Uo.mp q;rcases wg.mp H with z|z
   ·show h o q x z
   ·show Ed t.sb K o q x z
def jW(H:0<i)(h:i<=l.length):(l.take i).drop (i-1)=[l.getD (i-1) 0]:=by
 let L:(l.take i).length=i:=by simp_all
 rw[zg ⋯,List.drop_of_length_le ⋯,Vy,xo,Uc _];rfl
def MH.done(m:q7 0)(t:s_ 0)(h:na=0\/nb=0):u_ (cS (d9 la) (d9 lb) (d9 lo) na nb):=by
 refine⟨α0 0++α1 0++lo.reverse,?_,?_,?_⟩
 ·unfold cS;rw[cM,cM,tN,dU,dU,zx,zx,Wh,Wh]
 ·refine Vj ?_ m.perm;rw[wy];show yf _<|yf _<|Uq _
 ·rw[w8];refine⟨?_,by rw[Ug];show m.srt,λx H y Y=>m.hi y (Uo.mp Y) x H⟩;rw[w8];refine⟨eN t.sa _,eN t.sb _,λx H y Y=>?_⟩;rcases h with h|h
  ·rw[h]at H;simp at H
  ·rw[h]at Y;simp at Y
def MH.first(m:q7 0)(t:s_ 0)(h:nb=1)(hb:0<lb.length)(z:∀x∈la,Z6 (Yq 0)=false):u_ (gP (d9 la) (d9 lb) (d9 lo) na nb):=by
 subst h;let ed:lb.take 1=[Yq 0]:=by
  have:=cH hb
  rwa[zx]at this
 refine⟨lb.take 1++α0 0++lo.reverse,?_,?_,?_⟩
 ·unfold gP;rw[cM,cM,tN,dU,dU,zx,zx,Wh,Wh]
 ·refine Vj ?_ m.perm;refine(yf _<|Uq _).trans ?_;rw[<-wy];show Vb _ Wg
 ·rw[w8];refine⟨?_,by rw[Ug];show m.srt,λx t y hy=>m.hi y (Uo.mp hy) x (by rcases wg.mp t with z|z;show v9 _ z;show xr _ z)⟩;rw[w8];refine⟨eN t.sb _,eN t.sa _,λx t y hy=>?_⟩;rw[ed]at t;simp at t;rw[t];have:=z y<|yc hy;simpa using this
end
variable{F1:Nat->jh (a_ 0)×Nat×Nat×a_ 0×Nat×Nat->b_ (ForInStep (jh (a_ 0)×Nat×Nat×a_ 0×Nat×Nat))}
section
variable{lt:Nat->Nat->Bool}
def D6(O:a9 0)(S:l.Pairwise λi j=>lt j i=false)(N:∀x∈l,x<n){y c:Nat}(Y:y<n)(t:0<c)(C:c<=l.length)(K:WU 0=κ){Q:YJ 0->SortSt->Prop}(k:∀r,r<=c->(0<r->lt y (l.getD (r-1) 0)=false)->(∀x∈(l.take c).drop r,lt y x=true)->Q (a0 r) st):j2 (αE (pr y) (d9 l) 0 c<|c-1) Q st:=by
 refine iA (bey:=λj=>!lt y (l.getD (0+j) 0)) (λj J u q=>?_) (λa b H z h=>?_) ⋯ (λr H z h=>k r H (λR=>?_)<|λx X=>?_)
 ·refine xb (aN ⋯ ?_);refine xb<|O.run st _ _ K Y (N _<|aO ⋯) _ ?_;show xn q
 ·rw[VV]at h⊢;by_cases e:a=b
  ·subst e;show h
  ·let w:l.getD (0+a) 0=l[0+a]:=by simp[show a<l.length by omega]
   let v:l.getD (0+b) 0=l[0+b]:=by simp[show b<l.length by omega]
   rw[v]at h;rw[w];show WQ (N _<|xt _) (N _<|xt _) Y (zh.mp S (0+a) (0+b) ⋯ ⋯ ⋯) h
 ·have:=z (r-1) ⋯;rw[VV,V4]at this;show this
 ·let⟨j,J,rfl⟩:=zu X;rw[yx,ya]at J;have:=h (r+j) ⋯ ⋯;rw[Bool.not_eq_false']at this;rw[List.getElem_drop];simpa[show r+j<l.length by omega] using this
def FI(O:a9 0)(S:l.Pairwise λi j=>lt j i=false)(N:∀x∈l,x<n){y c:Nat}(Y:y<n)(v:0<c)(C:c<=l.length)(K:WU 0=κ){Q:YJ 0->SortSt->Prop}(k:∀r,r<=c->(∀x∈l.take r,Z6 y=true)->(∀x∈(l.take c).drop r,Z6 y=false)->Q (a0 r) st):j2 (βD (pr y) (d9 l) 0 c<|c-1) Q st:=by refine Bq O S N Y ⋯ ⋯ K λr H z w=>k r H (λx h=>z x<|by assumption) λx h=>?_;let⟨j,J,rfl⟩:=zu h;rw[yx,ya]at J;have:=w (r+j) ⋯ ⋯;simpa[show r+j<l.length by omega] using this
def pY(O:a9 0)(S:l.Pairwise λi j=>lt j i=false)(N:∀x∈l,x<n){x:Nat}(X:x<n)(w:0<i)(hi:i<=l.length)(h:Z6 (l.getD (i-1) 0)=false):∀y∈l.take i,Z6 y=false:=λy Y=>by
 let e:l.getD (i-1) 0=l[i-1]:=by simp[show i-1<l.length by omega]
 let⟨j,H,rfl⟩:=zu Y;rw[ya]at H;rw[Vy];rw[e]at h;by_cases z:j=i-1
 ·subst z;show h
 ·show WQ (N _<|xt _) (N _<|xt _) X (zh.mp S j (i-1) ⋯ ⋯ ⋯) h
def Two.qa(O:a9 0)(t:s_ 0){lo:v_ 0}(m:q7 0)(z:0<na)(a:na<=la.length)(h:∀y∈lb.take nb,lt (la.getD (na-1) 0) y=false):αT (lo++[la.getD (na-1) 0]) (na-1) nb:=by
 have:=m.pushA t (k:=na-1) ⋯ λx H=>by rw[jW z a]at H;simp at H;rw[H];simpa using h
 rwa[jW z a,List.reverse_singleton]at this
def Two.qb(O:a9 0)(t:s_ 0){lo:v_ 0}(m:q7 0)(hb:0<nb)(b:nb<=lb.length)(h:∀y∈la.take na,lt (lb.getD (nb-1) 0) y=false):αT (lo++[lb.getD (nb-1) 0]) na (nb-1):=by
 have:=m.pushB t (k:=nb-1) ⋯ λx H=>by rw[jW hb b]at H;simp at H;rw[H];simpa using h
 rwa[jW hb b,List.reverse_singleton]at this
abbrev NU(a b:a_ 0)(g:Nat)(c:jh (a_ 0)×Nat×Nat×a_ 0×Nat×Nat):b_ (ForInStep<|jh (a_ 0)×Nat×Nat×a_ 0×Nat×Nat):=do
 let a0 w <-lt' (<-Xz (c.2.2.1-1)) (<-XA (c.2.1-1))|pure (.done (a0<|cS a b c.2.2.2.1 c.2.1 c.2.2.1,c.2))
 if w then
  let z <-XA (c.2.1-1)
  if c.2.1-1 == 0 then pure (.done (a0<|cS a b (c.2.2.2.1.push z) (c.2.1-1) c.2.2.1,c.2.1-1,c.2.2.1,c.2.2.2.1.push z,c.2.2.2.2.1+1,0))
  else if c.2.2.2.2.1+1 >= g then pure (.done (a7,c.2.1-1,c.2.2.1,c.2.2.2.1.push z,c.2.2.2.2.1+1,0))
  else pure<|.yield (a7,c.2.1-1,c.2.2.1,c.2.2.2.1.push z,c.2.2.2.2.1+1,0)
 else
  let z <-Xz (c.2.2.1-1)
  if c.2.2.1-1 == 1 then pure (.done (a0<|gP a b (c.2.2.2.1.push z) c.2.1<|c.2.2.1-1,c.2.1,c.2.2.1-1,c.2.2.2.1.push z,0,c.2.2.2.2.2+1))
  else if c.2.2.2.2.2+1 >= g then pure (.done (a7,c.2.1,c.2.2.1-1,c.2.2.2.1.push z,0,c.2.2.2.2.2+1))
  else pure<|.yield (a7,c.2.1,c.2.2.1-1,c.2.2.2.1.push z,0,c.2.2.2.2.2+1)
abbrev NV(a b:a_ 0)(c:D2):b_ (αZ 0):=if c.2.2.2.2.1>1 then KA a b c.2.2.2.1 c.2.1 c.2.2.1 c.2.2.2.2.2.1 c.2.2.2.2.2.2 (c.2.2.2.2.1-1) else KA a b c.2.2.2.1 c.2.1 c.2.2.1 c.2.2.2.2.2.1 c.2.2.2.2.2.2 c.2.2.2.2.1
abbrev Ih(pr:Nat->Keyed)(lt:Nat->Nat->Bool)(la lb:v_ 0)(st:SortSt)(p:Nat)(c:D2)(aa:SortSt):Prop:=WT aa/\∃lo na nb g ac bc,c=(a7,na,nb,d9 lo,g,ac,bc)/\q7 0/\(0<na/\na<=la.length)/\(1<nb/\nb<=lb.length)/\p+(na+nb)<=la.length+lb.length
abbrev Qh(pr:Nat->Keyed)(lt:Nat->Nat->Bool)(la lb:v_ 0)(st:SortSt)(p:Nat)(c:D2)(aa:SortSt):Prop:=(WT aa/\∃r d,c=(a0 r,d)/\u_ r)\/ZR p c aa
abbrev Rh(pr:Nat->Keyed)(lt:Nat->Nat->Bool)(la lb:v_ 0)(st:SortSt)(p:Nat)(r:αZ 0)(aa:SortSt):Prop:=match r with
 |.done c=>Qh pr lt la lb st p c aa
 |.yield c=>ZR p c aa
def Bw(O:a9 0)(t:s_ 0)(S:WT ag){lo:v_ 0}{p:Nat}(m:q7 0)(a:0<na/\na<=la.length)(hb:1<nb/\nb<=lb.length)(h:∀y∈lb.take nb,lt (la.getD (na-1) 0) y=false)(P:p+(na+nb)<=la.length+lb.length)(g ac bc):j2 (NT (d9 la) (d9 lb) g ac bc na nb<|arr pr lo) (ZS p) ag:=by
 refine xb<|aN ⋯ ?_;let z:=t.qa O m a.1 a.2 h;rw[fP];refine bH (λc=>?_) λc=>?_
 ·rw[beq_iff_eq]at c;show xn<|.inl ⟨S,_,_,rfl,z.done t<|.inl c⟩
 rw[beq_iff_eq]at c;refine bH (λC=>?_) λC=>?_
 ·show xn (.inr ⟨S,_,_,_,_,_,_,rfl,z,⋯,hb,⋯⟩)
 ·show xn ⟨S,_,_,_,_,_,_,rfl,z,⋯,hb,⋯⟩
def Bx(O:a9 0)(t:s_ 0)(l:∀x∈la,Z6 (Yq 0)=false)(K:WU 0=κ)(S:WT ag){lo:v_ 0}{p:Nat}(m:q7 0)(a:0<na/\na<=la.length)(hb:1<nb/\nb<=lb.length)(h:lt (lb.getD (nb-1) 0) (la.getD (na-1) 0)=false)(P:p+(na+nb)<=la.length+lb.length)(g k b:Nat):j2 (Kz (d9 la) (d9 lb) g k b nb na<|arr pr lo) (ZS p) ag:=by
 unfold Kz;refine xb<|aN ⋯ ?_;let j:lb.getD (nb-1) 0<n:=t.nb _<|aO ⋯;let w:=t.qb O m ⋯ hb.2 (γ8 j a.1 a.2 h);rw[fP];refine bH (λc=>?_) λc=>?_
 ·rw[beq_iff_eq]at c;show xn<|.inl ⟨S,_,_,rfl,w.first t c ⋯ l⟩
 rw[beq_iff_eq]at c;let X:la.getD (na-1) 0<n:=t.na _<|aO ⋯;refine xb<|aN ⋯ (xb<|FI O t.sb t.nb X ⋯ ⋯ (S.1.trans K) λr i q o=>?_);dsimp only;let e:∀y∈lb.take r,lt (la.getD (na-1) 0) y=false:=λy Y=>YD (t.nb y<|yc Y) X<|q y Y;by_cases u:nb-1-r>0
 ·rw[if_pos u,cM,tN,dU];let d:(lb.drop r).take (nb-1-r)=(lb.take<|nb-1).drop r:=by rw[List.drop_take]
  rw[d];let v:=w.pushB t ⋯ λx H=>by show γ8 (t.nb x<|yc<|y2 H) a.1 a.2<|o x H
  refine bH (λC=>?_) λC=>?_
  ·rw[beq_iff_eq]at C;show xn<|.inl ⟨S,_,_,rfl,v.first t C ⋯ l⟩
  rw[beq_iff_eq]at C;refine bH (λz=>?_) λz=>?_
  ·rw[beq_iff_eq]at z;show xn<|.inl ⟨S,_,_,rfl,v.done t<|.inr z⟩
  rw[beq_iff_eq]at z;show Bw O t S v a ⋯ e ⋯ _ _ _
 ·rw[if_neg u];obtain rfl:r=nb-1:=⋯;show Bw O t S w a ⋯ e ⋯ _ _ _
def By(O:a9 0)(t:s_ 0)(low:∀x∈la,Z6 (Yq 0)=false)(hk:WU 0=κ)(sg:WT ag){lo:v_ 0}{p:Nat}(m:q7 0)(ha:0<na/\na<=la.length)(hb:1<nb/\nb<=lb.length)(pg:p+(na+nb)<=la.length+lb.length)(ac bc g:Nat):j2 (KA (d9 la) (d9 lb) (d9 lo) na nb ac bc g) (ZS p) ag:=by
 unfold KA;let hy:lb.getD (nb-1) 0<n:=t.nb _<|aO ⋯;let gf:WT (qX g ag):=sg;refine xb<|kN<|xb<|aN ⋯ (xb<|D6 (st:=qX g ag) O t.sa t.na hy ha.1 ha.2 (sg.1.trans hk) λr a1 a2 a3=>?_);dsimp only;by_cases c5:na-r>0
 ·rw[if_pos c5,cM,tN,dU];let ed:(la.drop r).take (na-r)=(α0 0).drop r:=by rw[List.drop_take]
  rw[ed];let m':=m.pushA t (k:=r) ⋯ λx jz=>by let o6:=t.na x<|yc<|y2 jz;show pY O t.sb t.nb o6 ⋯ hb.2 (YD hy o6<|a3 x jz)
  refine bH (λc6=>?_) λc6=>?_
  ·rw[beq_iff_eq]at c6;show xn<|.inl ⟨gf,_,_,rfl,m'.done t<|.inl c6⟩
  rw[beq_iff_eq]at c6;show Bx O t low hk gf m' ⋯ hb (a2 ⋯) ⋯ _ _ _
 ·rw[if_neg c5];obtain rfl:r=na:=⋯;show Bx O t low hk gf m ha hb (a2 ⋯) pg _ _ _
def Hg(O:a9 0)(t:s_ 0)(h2:0<lb.length)(low:∀x∈la,Z6 (Yq 0)=false)(hk:WU 0=κ)(sg:WT ag){lo:v_ 0}(m:q7 0)(ha:0<na/\na<=la.length)(hb:1<nb/\nb<=lb.length)(pg:i+1+j+(na+nb)<=la.length+lb.length)(ac bc g:Nat):
  j2 (NU (d9 la) (d9 lb) g (a7,na,nb,d9 lo,ac,bc)) (λr aa=>match r with
   |.done c=>WT aa/\((∃r d,c=(a0 r,d)/\u_ r)\/∃lo na nb ac bc,c=(a7,na,nb,d9 lo,ac,bc)/\q7 0/\(0<na/\na<=la.length)/\(1<nb/\nb<=lb.length)/\i+2+(na+nb)<=la.length+lb.length)
   |.yield c=>WT aa/\∃lo na nb ac bc,c=(a7,na,nb,d9 lo,ac,bc)/\q7 0/\(0<na/\na<=la.length)/\(1<nb/\nb<=lb.length)/\i+1+(j+1)+(na+nb)<=la.length+lb.length) ag:=by
 unfold NU;dsimp only;let hx:la.getD (na-1) 0<n:=t.na _<|aO ⋯;let hy:lb.getD (nb-1) 0<n:=t.nb _<|aO ⋯;refine xb<|aN ⋯ (xb<|aN ⋯ (xb<|O.run ag _ _ (sg.1.trans hk) hy hx _ ?_));dsimp only;cases e:lt (lb.getD (nb-1) 0) (la.getD (na-1) 0) with
 |true=>
  rw[if_pos rfl];refine xb<|aN ⋯ ?_;let m':=t.qa O m ha.1 ha.2<|pY O t.sb t.nb hx ⋯ hb.2 (YD hy hx e);rw[fP];refine bH (λc3=>?_) λc3=>?_
  ·rw[beq_iff_eq]at c3;show xn ⟨sg,.inl ⟨_,_,rfl,m'.done t<|.inl c3⟩⟩
  rw[beq_iff_eq]at c3;refine bH (λc4=>?_) λc4=>?_
  ·show xn ⟨sg,.inr ⟨_,_,_,_,_,rfl,m',⋯,hb,⋯⟩⟩
  ·show xn ⟨sg,_,_,_,_,_,rfl,m',⋯,hb,⋯⟩
 |false=>
  rw[if_neg<|by decide];refine xb<|aN ⋯ ?_;let m':=t.qb O m ⋯ hb.2 (γ8 hy ha.1 ha.2 e);rw[fP];refine bH (λc3=>?_) λc3=>?_
  ·rw[beq_iff_eq]at c3;show xn ⟨sg,.inl ⟨_,_,rfl,m'.first t c3 h2 low⟩⟩
  rw[beq_iff_eq]at c3;refine bH (λc4=>?_) λc4=>?_
  ·show xn ⟨sg,.inr ⟨_,_,_,_,_,rfl,m',ha,⋯,⋯⟩⟩
  ·show xn ⟨sg,_,_,_,_,_,rfl,m',ha,⋯,⋯⟩
def Hh(O:a9 0)(t:s_ 0)(low:∀x∈la,Z6 (Yq 0)=false)(hk:WU 0=κ){p:Nat}{c:D2}(hi:ZR p c ag):j2 (NV (d9 la) (d9 lb) c) (ZS p) ag:=by let⟨sg,lo,na,nb,g,ac,bc,rfl,m,ha,hb,pg⟩:=hi;unfold NV;show bH (λ_=>βf<|g-1) λ_=>βf g
def KB(O:a9 0)(t:s_ 0)(h2:0<lb.length)(low:∀x∈la,Z6 (Yq 0)=false)(hk:WU 0=κ){u:Nat}(hu:u=la.length+lb.length)(hi:i<u)(sg:WT aa){lo:v_ 0}{g:Nat}(m:q7 0)(ha:0<na/\na<=la.length)(hb:1<nb/\nb<=lb.length)(pg:i+1+(na+nb)<=la.length+lb.length){K:jh (a_ 0)×Nat×Nat×a_ 0×Nat×Nat->b_ (ForInStep<|jh (a_ 0)×Nat×Nat×a_ 0×Nat)}{F2:Nat->D2->b_ (αZ 0)}{K2:D2->b_ (ForInStep<|jh (a_ 0)×Nat×Nat×a_ 0×Nat)}(e1:∀j c,F1 j c=NU (d9 la) (d9 lb) g c)(e2:∀j c,F2 j c=NV (d9 la) (d9 lb) c)(k1:∀r d,K (a0 r,d)=pure (.done (a0 r,d.1,d.2.1,d.2.2.1,g)))(k2:∀d,K (a7,d)=((liftM (rule "list.sort.gallop"):b_ Unit) >>= λ_=>forIn [0:u] (a7,d.1,d.2.1,d.2.2.1,g+1,d.2.2.2.1,d.2.2.2.2) F2 >>= K2))(k3:∀r d,K2 (a0 r,d)=pure (.done (a0 r,d.1,d.2.1,d.2.2.1,d.2.2.2.1)))(k4:∀d,K2 (a7,d)=(bD (d.2.2.2.1+1) >>= λ_=>pure<|.yield (a7,d.1,d.2.1,d.2.2.1,d.2.2.2.1+1))):
  j2 (forIn [0:u] (a7,na,nb,d9 lo,0,0) F1 >>= K) (λr aa=>match r with
   |.done c'=>WT aa/\∃r d,c'=(a0 r,d)/\u_ r
   |.yield c'=>WT aa/\∃lo na nb g,c'=(a7,na,nb,d9 lo,g)/\q7 0/\(0<na/\na<=la.length)/\(1<nb/\nb<=lb.length)/\i+1+1+(na+nb)<=la.length+lb.length) aa:=by
 refine xb<|Vn (Ut (λj c ae=>WT ae/\∃lo na nb ac bc,c=(a7,na,nb,d9 lo,ac,bc)/\q7 0/\(0<na/\na<=la.length)/\(1<nb/\nb<=lb.length)/\i+1+j+(na+nb)<=la.length+lb.length) (Q:=λc ae=>WT ae/\((∃r d,c=(a0 r,d)/\u_ r)\/∃lo na nb ac bc,c=(a7,na,nb,d9 lo,ac,bc)/\q7 0/\(0<na/\na<=la.length)/\(1<nb/\nb<=lb.length)/\i+2+(na+nb)<=la.length+lb.length)) (λj c ae _ hj=>?_) (λc ae=>?_) ⟨sg,lo,na,nb,0,0,rfl,m,ha,hb,⋯⟩) λc ae hq=>?_
 ·rintro⟨sg,lo,na,nb,ac,bc,rfl,m,ha,hb,pg⟩;rw[e1];show Vn (Hg O t h2 low hk sg m ha hb pg ac bc g) λr _ h=>by cases r <;> exact h
 ·rintro⟨sg,lo,na,nb,ac,bc,rfl,m,ha,hb,pg⟩;show⟨sg,.inr ⟨_,_,_,_,_,rfl,m,ha,hb,⋯⟩⟩
 ·obtain⟨sg,⟨r,d,rfl,mg⟩|⟨lo,na,nb,ac,bc,rfl,m,ha,hb,pg⟩⟩:=hq
  ·rw[k1];show xn ⟨sg,_,_,rfl,mg⟩
  rw[k2];refine xb<|jV ?_;refine xb<|Vn (Ut (λj c ae=>ZR (i+2) c ae) (Q:=Qh pr lt la lb st<|i+2) (λj c ae _ hj=>?_) (λc ae h=>.inr h) ⟨sg,lo,na,nb,_,ac,bc,rfl,m,ha,hb,pg⟩) λc ae hq=>?_
  ·rw[e2];show λhi=>Vn (Hh O t low hk hi) λr _ h=>by cases r <;> exact h
  ·rcases hq with⟨sg,r,d,rfl,mg⟩|⟨sg,lo,na,nb,g,ac,bc,rfl,m,ha,hb,pg⟩
   ·rw[k3];show xn ⟨sg,_,_,rfl,mg⟩
   ·rw[k4];show xb<|kN<|xn ⟨sg,_,_,_,_,rfl,m,ha,hb,⋯⟩
def Bz(O:a9 0)(t:s_ 0)(h1:0<la.length)(h2:0<lb.length)(low:∀x∈la,Z6 (Yq 0)=false)(top:∀x∈lb,lt (la.getD (la.length-1) 0) x=false)(hk:WU 0=κ){Q:a_ 0->SortSt->Prop}(k:∀out aa,WT aa->u_ out->Q out aa):j2 (uO (d9 la)<|arr pr lb) Q st:=by
 let m0:αT [] la.length lb.length:=⟨by simp,UT,λo ho=>by simp at ho⟩;let m1:=t.qa O m0 h1 (wj _)<|λy hy=>top y<|yc hy;rw[Bv,cR,cR];refine MB (l:=la) (j:=la.length-1) ⋯ (λc1=>A5 (Sg.refl _)<|m1.done t<|.inl<|beq_iff_eq.mp c1) (λc2=>A5 (Sg.refl _)<|m1.first t (beq_iff_eq.mp c2) h2 low) λc1 c2=>?_
 rw[beq_iff_eq]at c1 c2;refine(Vn (Ut (λi c aa=>WT aa/\∃lo na nb g,c=(a7,na,nb,d9 lo,g)/\q7 0/\(0<na/\na<=la.length)/\(1<nb/\nb<=lb.length)/\i+1+(na+nb)<=la.length+lb.length) (Q:=λc aa=>WT aa/\∃r d,c=(a0 r,d)/\u_ r) (λi c aa _ hi=>?_) (λc aa=>?_) ⟨Sg.refl _,[la.getD (la.length-1) 0],_,_,_,rfl,m1,⋯,⋯,⋯⟩) λc aa hq=>?_)
 ·rintro⟨sg,lo,na,nb,g,rfl,m,ha,hb,pg⟩;show Vn (KB O t h2 low hk rfl hi sg m ha hb pg (λ_ _=>rfl) (λ_ _=>rfl) (λ_ _=>rfl) (λ_=>rfl) (λ_ _=>rfl)<|λ_=>rfl) λr _ h=>by cases r <;> exact h
 ·rintro⟨sg,lo,na,nb,g,rfl,m,ha,hb,pg⟩;omega
 ·let⟨sg,r,d,rfl,mg⟩:=hq;show xn<|k _ _ sg mg
end
def BA(i):mergeAt' i=(do
 let s <-get
 let (a0 (sa,na,power),a0 (sb,nb,_)):=((y3 s)[i]?,(y3 s)[i+1]?)|unsupported "internal:list.sort.pending"
 set (VW s<|((y3 s).setIfInBounds i (sa,na+nb,power)).eraseIdxIfInBounds<|i+1)
 let a0 k <-αE (<-elem' (arrOf s) sb) (arrOf s) sa na 0|return false
 let (sa,na):=(sa+k,na-k)
 if na == 0 then return true
 let a0 nb <-βD (<-elem' (arrOf s) (sa+na-1)) (arrOf s) sb nb (nb-1)|return false
 if nb == 0 then return true
 let x:=(arrOf s).extract sa sb
 let y:=(arrOf s).extract sb<|sb+nb
 let merged <-if na<=nb then uN x y else uO x y
 modify λs=>setArr s<|merged.toList.zipIdx.foldl (λa(p,j)=>a.setIfInBounds (sa+j) p)<|arrOf s
 return(VQ (<-get)).isNone):=rfl
variable{Y:v_ 0}{U Z:v_ 0}
section
variable{lt:Nat->Nat->Bool}
def tO{X S:v_ 0}(h:j<S.length):(X++(S++Y)).getD (X.length+j) 0=S.getD j 0:=by rw[xo,wz ⋯,UD,xc h,xo]
def D7(O:a9 0){X S:v_ 0}(L:S.Pairwise λi j=>lt j i=false)(l:∀x∈S,x<n){y:Nat}(u:y<n)(o:hint<S.length)(K:WU 0=κ){Q:YJ 0->SortSt->Prop}(k:∀r,r<=S.length->(∀x∈S.take r,lt y x=false)->(∀x∈S.drop r,lt y x=true)->Q (a0 r) st):j2 (αE (pr y) (d9<|X++(S++Y)) X.length S.length hint) Q st:=by
 refine iA (bey:=λj=>!lt y (S.getD j 0)) (λj H g m=>?_) (λa b w v h=>?_) o<|λr w v h=>k r w (λx z=>?_)<|λx z=>?_
 ·refine xb (aN (by rw[wq,wq];omega) ?_);rw[tO H];refine xb<|O.run st _ _ K u (l _<|aO H) _ ?_;show xn m
 ·rw[VV]at h⊢;by_cases e:a=b
  ·subst e;show h
  ·let q:=zh.mp L a b ⋯ ⋯ ⋯;let t:S.getD a 0=S[a]:=by simp[show a<S.length by omega]
   let p:S.getD b 0=S[b]:=by simp_all
   rw[p]at h;rw[t];show WQ (l _<|xt _) (l _<|xt _) u q h
 ·let⟨j,H,rfl⟩:=zu z;rw[ya]at H;have:=v j ⋯;simpa[show j<S.length by omega] using this
 ·let⟨j,H,rfl⟩:=zu z;rw[yx]at H;have:=h (r+j) ⋯ ⋯;simpa[show r+j<S.length by omega] using this
def FJ(O:a9 0){X S P:v_ 0}{o:Nat}(g:P=X++(S++Y))(d:o=X.length)(L:S.Pairwise λi j=>lt j i=false)(l:∀x∈S,x<n){y:Nat}(t:y<n)(f:hint<S.length)(K:WU 0=κ){Q:YJ 0->SortSt->Prop}(k:∀r,r<=S.length->(∀x∈S.take r,Z6 y=true)->(∀x∈S.drop r,Z6 y=false)->Q (a0 r) st):j2 (βD (pr y) (d9 P) o S.length hint) Q st:=by
 subst g d;refine iA (bey:=λj=>lt (S.getD j 0) y) (λj H Z c=>?_) (λa b v u h=>?_) f<|λr v u h=>k r v (λx w=>?_)<|λx w=>?_
 ·refine xb (aN (by rw[wq,wq];omega) ?_);rw[tO H];show O.run st _ _ K (l _<|aO H) t _ c
 ·by_cases e:a=b
  ·subst e;show h
  ·let q:=zh.mp L a b ⋯ ⋯ ⋯;let p:S.getD a 0=S[a]:=by simp[show a<S.length by omega]
   let m:S.getD b 0=S[b]:=by simp_all
   change lt _ y=true
   let h:lt _ y=true:=h;rw[m]at h;rw[p];cases z:lt S[a] y with
   |true=>rfl
   |false=>have:=O.tr y _ _ t (l _<|xt _) (l _<|xt _) z q;rw[this]at h;cases h
 ·let⟨j,H,rfl⟩:=zu w;rw[ya]at H;have:lt _ y=true:=u j ⋯;simpa[show j<S.length by omega] using this
 ·let⟨j,H,rfl⟩:=zu w;rw[yx]at H;have:lt (S.getD (r+j) 0) y=false:=h _ ⋯ ⋯;simpa[show r+j<S.length by omega] using this
def Hi(pr):∀(W X D Y),D.length=W.length->(W.map pr).zipIdx.foldl (λ(a)(p)=>a.setIfInBounds (X.length+p.2) p.1) (d9<|X++(D++Y))=d9 (X++(W++Y))
 |W,X,D,Y,h=>by
  let g:∀(W D)(X)(c)(o),D.length=W.length->X.length=o+c->((W.map pr).zipIdx c).foldl (λ(a)(p)=>a.setIfInBounds (o+p.2) p.1) (d9<|X++(D++Y))=d9 (X++(W++Y)):=by
   intro W
   induction W with
   |nil=>intro D X c o H z;simp at H;subst H;rfl
   |cons w W i=>
    intro D X c o H z;cases D with
    |nil=>simp at H
    |cons d D=>
     rw[xg,List.zipIdx_cons,VB];let e:(d9<|X++(d::D++Y)).setIfInBounds (o+c) (pr w)=d9 ((X++[w])++(D++Y)):=by
      unfold arr;congr 1;rw[<-z];simp
     let E:(d9 _).setIfInBounds _ (pr w,c).1=d9 _:=e;rw[E,i D _ _ o (cA H) (by simp;omega)];simp
  show g W D X 0 _ h rfl
def KC{Q:PUnit->SortSt->Prop}(h:Q ⟨⟩ aa):j2 (set aa) Q st:=by show v8 ⟨rfl,h⟩
abbrev Srt(lt:Nat->Nat->Bool)(l:v_ 0):Prop:=l.Pairwise λi j=>lt j i=false
def Ee{X:v_ 0}{r c:Nat}(h:r+c<=U.length):((X++(U++Z)).drop<|X.length+r).take c=(Zt 0).take c:=by
 rw[List.drop_append,List.drop_of_length_le ⋯,WH,UD,List.drop_append,List.take_append];let e:c-(Zt 0).length=0:=by rw[yx];omega
 rw[e,List.take_zero,Ua]
def BB(O:a9 0){X V:v_ 0}(f:WX U)(d:WX V)(N:∀x∈U,x<n)(l:∀x∈V,x<n)(lU:0<U.length)(P:0<V.length)(hk:WU 0=κ)(hf:VQ st=a7)(ha:arrOf st=d9 (X++(U++(V++Y)))){w w':Nat}(p1:(y3 st)[i]?=a0 (X.length,U.length,w))(p2:(y3 st)[i+1]?=a0 (X.length+U.length,V.length,w')){Q:Bool->SortSt->Prop}(k:∀W u,W.Perm (U++V)->WX W->arrOf u=d9 (X++(W++Y))->y3 u=((y3 st).setIfInBounds i (X.length,U.length+V.length,w)).eraseIdxIfInBounds (i+1)->kindOf u=κ->VQ u=a7->Q true u):j2 (mergeAt' i) Q st:=by
 rw[BA]
 refine xb<|wpS_get ?_
 rw[p1,p2,ha]
 dsimp only
 refine xb<|KC ?_
 have K:kindOf (VW st<|((y3 st).setIfInBounds i (X.length,U.length+V.length,w)).eraseIdxIfInBounds<|i+1)=κ:=hk
 have h:VQ (VW st<|((y3 st).setIfInBounds i (X.length,U.length+V.length,w)).eraseIdxIfInBounds<|i+1)=a7:=hf
 have e:y3 (VW st<|((y3 st).setIfInBounds i (X.length,U.length+V.length,w)).eraseIdxIfInBounds<|i+1)=((y3 st).setIfInBounds i (X.length,U.length+V.length,w)).eraseIdxIfInBounds (i+1):=rfl
 have D:arrOf (VW st<|((y3 st).setIfInBounds i (X.length,U.length+V.length,w)).eraseIdxIfInBounds<|i+1)=d9 (X++(U++(V++Y))):=ha
 generalize VW st (((y3 st).setIfInBounds i (X.length,U.length+V.length,w)).eraseIdxIfInBounds<|i+1)=st1 at K h e D
 have v0:V.getD 0 0∈V:=aO P
 have p:U.getD (U.length-1) 0∈U:=aO ⋯
 have eV:(X++(U++(V++Y))).getD (X.length+U.length) 0=V.getD 0 0:=by
  have:=tO (X:=X++U) (S:=V) (Y:=Y) (j:=0) P
  rwa[Nat.add_zero,wq,wy]at this
 refine xb (aN (by simp;omega) ?_)
 rw[eV]
 refine xb<|D7 O (S:=U) f N (l _ v0) lU K λr a1 a2 a3=>?_
 dsimp only
 have J:∀x∈U,lt (V.getD 0 0) x=false->∀y∈V,lt y x=false:=λx H h=>by
  have:=pX O d l (i:=0) (N x H) P h
  rwa[zx]at this
 by_cases B:(U.length-r == 0)=true
 ·rw[if_pos B]
  rw[beq_iff_eq]at B
  refine xn (k (U++V) st1 (Vw _) ?_ (by rw[D,wy]) e K h)
  unfold Srt
  rw[w8]
  refine⟨f,d,λx H=>J x H<|a2 x ?_⟩
  rw[zq ⋯]
  exact H
 rw[if_neg B]
 rw[beq_iff_eq]at B
 have eZ:(X++(U++(V++Y))).getD (X.length+r+(U.length-r)-1) 0=U.getD (U.length-1) 0:=by
  rw[show X.length+r+(U.length-r)-1=X.length+(U.length-1) by omega]
  exact tO ⋯
 refine xb (aN (by simp;omega) ?_)
 rw[eZ]
 refine xb (FJ O (X:=X++U) (S:=V) (Y:=Y) (by rw[wy]) (by rw[wq]) d l (N _ p) ⋯ K λb b1 b2 b3=>?_)
 dsimp only
 have G:∀x∈U,lt (U.getD (U.length-1) 0) x=false:=λx H=>by
  let⟨j,hj,rfl⟩:=zu H
  have e:U.getD (U.length-1) 0=U[U.length-1]:=by simp[show U.length-1<U.length by omega]
  rw[e]
  by_cases z:j=U.length-1
  ·subst z
   cases q:lt U[U.length-1] U[U.length-1] with
   |false=>rfl
   |true=>have:=YD (N _<|xt _) (N _<|xt _) q;rw[q]at this;exact this
  ·exact zh.mp f j (U.length-1) hj ⋯ ⋯
 by_cases C:(b == 0)=true
 ·rw[if_pos C]
  rw[beq_iff_eq]at C
  subst C
  refine xn (k (U++V) st1 (Vw _) ?_ (by rw[D,wy]) e K h)
  unfold Srt
  rw[w8]
  refine⟨f,d,λx H y v=>?_⟩
  exact WQ (N x H) (N _ p) (l y v) (G x H) (b3 y (by rw[zx];exact v))
 rw[if_neg C]
 rw[beq_iff_eq]at C
 have ex:(d9<|X++(U++(V++Y))).extract (X.length+r) (X.length+U.length)=d9 (Zt 0):=by rw[cM,show X.length+U.length-(X.length+r)=U.length-r by omega,Ee ⋯,zq (by rw[yx];omega)]
 have ey:(d9<|X++(U++(V++Y))).extract (X.length+U.length) (X.length+U.length+b)=d9 (γT 0):=by
  have:=Ee (X:=X++U) (U:=V) (Z:=Y) (r:=0) (c:=b) ⋯
  rw[cM,UD]
  rw[wy,wq,Nat.add_zero,zx]at this
  rw[this]
 rw[ex,ey]
 have t:Two lt n (Zt 0) (γT 0):=⟨dN f r,eN d b,λx H=>N x<|y2 H,λx H=>l x<|yc H⟩
 have l1:0<(Zt 0).length:=by rw[yx];omega
 have l2:0<(γT 0).length:=by rw[ya];omega
 have g1:(γT 0).getD 0 0=V.getD 0 0:=by rw[xo,List.getElem?_take,if_pos ⋯,xo]
 have g2:(Zt 0).getD ((Zt 0).length-1) 0=U.getD (U.length-1) 0:=by
  rw[xo,List.getElem?_drop,yx,xo]
  congr 2
  omega
 have I:∀x∈V.take b,lt ((Zt 0).getD ((Zt 0).length-1) 0) x=false:=λx H=>by
  rw[g2]
  exact YD (t.nb x H) (N _ p)<|b2 x H
 have low:∀x∈U.drop r,Z6 ((γT 0).getD 0 0)=false:=λx H=>by
  rw[g1]
  exact YD (l _ v0) (t.na x H)<|a3 x H
 have first:lt ((γT 0).getD 0 0) ((Zt 0).getD 0 0)=true:=by
  rw[g1]
  exact a3 _<|aO l1
 have F:∀g T,Sg st1 T->Mgd pr lt (Zt 0) (γT 0) g->j2 (do
   modify λs=>setArr s<|g.toList.zipIdx.foldl (λa(p,j)=>a.setIfInBounds (X.length+r+j) p)<|arrOf s
   return(VQ (<-get)).isNone) Q T:=λg T L mg=>by
  let⟨o,rfl,I,sW⟩:=mg
  refine xb<|wpS_modify<|xb<|wpS_get ?_
  have eW:=Hi pr o (X++U.take r) (Zt 0++γT 0) (V.drop b++Y) I.length_eq.symm
  have eP:(X++U.take r)++((Zt 0++γT 0)++(V.drop b++Y))=X++(U++(V++Y)):=by
   conv=>rhs;rw[<-yn r U,<-yn b V]
   simp only[wy]
  have eL:(X++U.take r).length=X.length+r:=by rw[wq,ya];omega
  rw[eP,eL]at eW
  have eA:arrOf T=d9 (X++(U++(V++Y))):=L.2.1.trans D
  have eT:(d9 o).toList=o.map pr:=by simp[arr]
  have ef:VQ (setArr T<|(d9 o).toList.zipIdx.foldl (λa(x:Keyed×Nat)=>a.setIfInBounds (X.length+r+x.2) x.1)<|arrOf T)=a7:=L.2.2.2.trans h
  rw[ef]
  have pw:(U.take r++(o++V.drop b)).Perm (U++V):=by
   conv=>rhs;rw[<-yn r U,<-yn b V,wy]
   refine yf _ ?_
   rw[<-wy]
   exact Vb _ I
  have m:∀x∈o,x∈Zt 0\/x∈γT 0:=λx H=>wg.mp<|I.mem_iff.mp H
  refine xn<|k (U.take r++(o++V.drop b)) _ pw ?_ ?_ (L.2.2.1.trans e) (L.1.trans K) ef
  ·unfold Srt
   have L:∀x∈U.take r,∀y∈U.drop r,lt y x=false:=λx H y v=>by
    have:=f
    unfold Srt at this
    rw[<-yn r U]at this
    exact(w8.mp this).2.2 x H y v
   have P:∀x∈V.take b,∀y∈V.drop b,lt y x=false:=λx H y v=>by
    have:=d
    unfold Srt at this
    rw[<-yn b V]at this
    exact(w8.mp this).2.2 x H y v
   have UV:∀x∈U.take r,∀y∈V,lt y x=false:=λx H=>J x (yc H)<|a2 x H
   rw[w8]
   refine⟨eN f r,?_,λx H y v=>?_⟩
   ·rw[w8]
    refine⟨sW,dN d b,λx H y v=>?_⟩
    rcases m x H with q|q
    ·have R:=y2 q
     exact WQ (N x R) (N _ p) (l y<|y2 v) (G x R)<|b3 y v
    ·exact P x q y v
   ·rcases wg.mp v with q|q
    ·rcases m y q with z|z
     ·exact L x H y z
     ·exact UV x H y (yc z)
    ·exact UV x H y (y2 q)
  ·show(d9 o).toList.zipIdx.foldl (λa(x:Keyed×Nat)=>a.setIfInBounds (X.length+r+x.2) x.1) (arrOf T)=_
   rw[eA,eT,eW]
   congr 1
   simp only[wy]
 by_cases c3:U.length-r<=b
 ·rw[if_pos c3]
  exact xb<|Bu O t l1 l2 first I K F
 ·rw[if_neg c3]
  exact xb<|Bz O t l1 l2 low I K F
end
abbrev MD(lo cb n:Nat):b_ (YJ 0):=do
 let mut n:=n
 for _ in [n:cb] do
  let a0 smaller <-ltAt' (lo+n) (lo+n-1)|return a7
  if smaller then break
  n:=n+1
 return a0 n
abbrev ME(lo cb n:Nat):b_ (YJ 0):=do
 reverseSlice' lo (lo+n)
 MD lo cb n
abbrev D8(lo cb n:Nat):b_ (YJ 0):=do
 rule "list.sort.descending-run"
 let mut n:=n+1
 let mut neq:=0
 for _ in [n:cb] do
  let a0 smaller <-ltAt' (lo+n) (lo+n-1)|return a7
  if smaller then
   if neq>0 then reverseSlice' (lo+n-(neq+1)) (lo+n)
   neq:=0
  else
   let a0 larger <-ltAt' (lo+n-1) (lo+n)|return a7
   if larger then break
   neq:=neq+1
  n:=n+1
 if neq>0 then reverseSlice' (lo+n-(neq+1)) (lo+n)
 ME lo cb n
def A8(lo cb):countRun' lo cb=(do
 let mut n:=1
 for _ in [1:cb] do
  let a0 smaller <-ltAt' (lo+n) (lo+n-1)|return a7
  if smaller then break
  n:=n+1
 if n == cb then return a0 n
 if n>1 then
  let a0 rose <-ltAt' lo (lo+n-1)|return a7
  if rose then return a0 n
  reverseSlice' lo (lo+n)
 D8 lo cb n):=rfl
variable{pd:Array (Nat×Nat×Nat)}{m:Nat}
section
variable{lt:Nat->Nat->Bool}
def A9{X:v_ 0}(j):(X++Z).getD (X.length+j) 0=Z.getD j 0:=by rw[xo,wz ⋯,UD,xo]
structure Tl(pr:Nat->Keyed)(κ:VR)(X Z:i_ Nat)(pd:Array (Nat×Nat×Nat))(st:SortSt):Prop where
 a:arrOf st=arr pr (X++Z)
 k:kindOf st=κ
 p:y3 st=pd
 f:VQ st=none
def oF(O:a9 0){X:v_ 0}(T:α4 0)(N:∀x∈Z,x<n)(hi:i<Z.length)(H:j<Z.length){Q:Y4 0->SortSt->Prop}(h:Q (a0<|lt (δG 0)<|Z.getD j 0) st):j2 (ltAt' (X.length+i)<|X.length+j) Q st:=by rw[ltAt'_eq];refine xb<|wpS_get ?_;rw[T.a];refine xb (aN (by simp;omega)<|xb<|aN (by simp;omega) ?_);rw[A9,A9];show O.run st _ _ T.k (N _<|aO hi) (N _<|aO H) _ h
open H in
def D9(pr)(X B Y):mirror (d9<|X++(B++Y)) X.length (X.length+B.length) ((X.length+B.length-X.length)/2)=d9 (X++(B.reverse++Y)):=by
 apply Array.ext_getElem?;intro k;let g:∀(l)(k:Nat),(d9 l)[k]?=(l[k]?).map pr:=λl k=>by simp[arr]
 rw[getElem?_mirror_all (by rw[cR];simp),g,g,g];split
 ·rw[wz ⋯,xc ⋯,wz ⋯,xc (by rw[Vd];omega),List.getElem?_reverse ⋯];congr 2;omega
 ·by_cases c:k<X.length
  ·rw[xc c,xc c]
  ·rw[wz ⋯,wz ⋯,wz ⋯,wz (by rw[Vd];omega),Vd]
def Aa{X B D:v_ 0}(T:α4 0)(e:Z=D++(B++Y))(hi:i=X.length+D.length)(H:j=X.length+D.length+B.length){Q:Unit->SortSt->Prop}(h:∀t,A_ (D++(B.reverse++Y)) pd t->Q () t):j2 (reverseSlice' i j) Q st:=by
 rw[reverseSlice'_eq];refine wpS_modify<|h _ ⟨?_,T.k,T.p,T.f⟩
 change mirror _ i j _=_
 have:=D9 pr (X++D) B Y;rw[wq,wy,wy]at this;rw[T.a,e,hi,H,this]
abbrev Dsc(lt:Nat->Nat->Bool)(l:v_ 0):Prop:=l.Pairwise λi j=>lt i j=false
def Dsc.rev(h:Zu l):WX l.reverse:=by unfold Srt;rw[Ug];show h
def Srt.rev(h:WX l):Zu l.reverse:=by unfold Dsc;rw[Ug];show h
def take_one(h:m<Z.length):Z.take (m+1)=U_ 0++[Z.getD m 0]:=by rw[Ve,xo,Uc h];rfl
def yC(H:0<m)(h:m<=Z.length):∃l,U_ 0=l++[Z.getD (m-1) 0]:=⟨Z.take _,by
 have:=take_one (Z:=Z) (m:=m-1) ⋯
 rwa[show m-1+1=m by omega]at this⟩
def Srt.more(O:a9 0)(w:∀x∈Z,x<n)(v:0<m)(z:m<Z.length)(h:WX (U_ 0))(e:lt (Z.getD m 0) (Z.getD (m-1) 0)=false):WX (Z.take<|m+1):=by
 let⟨l,L⟩:=yC (Z:=Z) v ⋯;let N:∀x∈Z.take m,x<n:=λx H=>w x<|yc H;let u:=w _<|aO z;rw[take_one z];unfold Srt at h⊢;rw[w8];refine⟨h,by simp,λx H y Y=>?_⟩;simp at Y;rw[Y];rw[L]at h H N;rcases wg.mp H with q|q
 ·have:=(w8.mp h).2.2 x q (Z.getD (m-1) 0) (by simp);show WQ (N x H) (N _<|by simp) u this e
 ·let q:x=Z.getD (m-1) 0:=by simpa using q
  rw[q];show e
def FK(O:a9 0){X:v_ 0}(T:α4 0)(N:∀x∈Z,x<n)(H:0<m)(v:m<=Z.length)(hs:WX (U_ 0)){Q:YJ 0->SortSt->Prop}(k:∀r,0<r->r<=Z.length->WX (Z7 0)->Q (a0 r) st):j2 (MD X.length Z.length m) Q st:=by
 refine xb<|Vn (Ut (λi c t=>t=st/\c=(a7,i)/\WX (Z.take i)) (Q:=λc t=>t=st/\∃r,c=(a7,r)/\0<r/\r<=Z.length/\WX (Z7 0)) (λi c t w h=>?_) (λc t=>?_) ⟨rfl,rfl,hs⟩) λc t q=>?_
 ·rintro⟨rfl,rfl,hs⟩;dsimp only;rw[show X.length+i-1=X.length+(i-1) by omega];refine xb<|oF O T N h ⋯ ?_;cases e:lt _ (Z.getD _ 0) with
  |true=>exact xn ⟨rfl,i,rfl,⋯,⋯,hs⟩
  |false=>exact xn ⟨rfl,rfl,hs.more O N ⋯ h e⟩
 ·rintro⟨rfl,rfl,hs⟩;show⟨rfl,_,rfl,⋯,⋯,hs⟩
 ·let⟨rfl,r,rfl,a,z,y⟩:=q;show xn<|k r a z y
def yD(O:a9 0){X:v_ 0}(T:α4 0)(N:∀x∈Z,x<n)(h:0<m)(u:m<=Z.length)(hs:Zu (U_ 0)){Q:YJ 0->SortSt->Prop}(k:∀r z t,0<r->r<=z.length->z.Perm Z->WX (z.take r)->A_ z pd t->Q (a0 r) t):j2 (ME X.length Z.length m) Q st:=by
 let l:(U_ 0).length=m:=by simp_all
 refine xb (Aa T (D:=[]) (B:=U_ 0) (Y:=δH 0) (by simp) (by simp) (by simp[l]) λt y=>?_);rw[WH]at y;let p:((U_ 0).reverse++δH 0).Perm Z:=by
  have:=Vb (δH 0)<|Uq<|Z.take m
  rwa[yn]at this
 let L:=p.length_eq;let e:((U_ 0).reverse++δH 0).take m=(U_ 0).reverse:=by simp_all
 rw[<-L];refine FK O y (λx H=>N x<|p.mem_iff.mp H) h ⋯ (by rw[e];show hs.rev) λr a w v=>k r _ t a w p v y
def Ask.irr(O:a9 0){x:Nat}(h:x<n):Z6 x=false:=by
 cases e:Z6 x with
 |false=>rfl
 |true=>have:=O.as x x h h e;rw[e]at this;show this
def Dsc.last(O:a9 0)(N:∀x∈Z,x<n)(z:0<m)(y:m<=Z.length)(h:Zu (U_ 0)):∀x∈Z.take m,Z6 (Z.getD (m-1) 0)=false:=λx H=>by
 let⟨l,e⟩:=yC z y;rw[e]at h H;rcases wg.mp H with q|q
 ·show(w8.mp h).2.2 x q _ (by simp)
 ·let q:x=Z.getD (m-1) 0:=by simpa using q
  rw[q];show O.irr<|N _<|aO ⋯
def Dsc.more(O:a9 0)(N:∀x∈Z,x<n)(z:m<Z.length)(h:Zu (U_ 0))(e:∀x∈Z.take m,Z6 (Z.getD m 0)=false):Zu (Z.take<|m+1):=by
 rw[take_one z];unfold Dsc at h⊢;rw[w8];refine⟨h,by simp,λx X y H=>?_⟩;let H:y=Z.getD m 0:=by simpa using H
 rw[H];show e x X
abbrev ER(lt:Nat->Nat->Bool)(Z:v_ 0)(m q:Nat):Prop:=∀x∈(U_ 0).drop (m-(q+1)),∀y∈(U_ 0).drop (m-(q+1)),Z6 y=false
def BC(O:a9 0){X:v_ 0}(T:α4 0){q:Nat}(c:q<m)(d:m<=Z.length)(hd:Zu (U_ 0))(r:ER lt Z m q){Q:Unit->SortSt->Prop}(k:∀z t,z.Perm Z->Zu (z.take m)->(∀x,x∈z.take m↔x∈U_ 0)->(∀j,m<=j->z.getD j 0=Z.getD j 0)->A_ z pd t->Q () t):j2 (reverseSlice' (X.length+m-(q+1))<|X.length+m) Q st:=by
 let L:(U_ 0).length=m:=by simp_all
 obtain⟨D,u⟩:∃D,D=Z.take (m-(q+1)):=⟨_,rfl⟩;obtain⟨B,v⟩:∃B,B=(U_ 0).drop (m-(q+1)):=⟨_,rfl⟩;let e:U_ 0=D++B:=by rw[u,v];show dY ⋯
 let W:D.length=m-(q+1):=by rw[u,ya];omega
 let b:B.length=q+1:=by rw[v,yx,L];omega
 let w:Z=D++(B++δH 0):=by rw[<-wy,<-e,yn]
 unfold ER at r;rw[<-v]at r;refine Aa T w ⋯ ⋯ λt o=>?_;let p:(D++(B.reverse++δH 0)).take m=D++B.reverse:=by rw[<-wy,List.take_append,zq (by simp;omega)];simp;omega
 refine k _ t ?_ ?_ (λx=>?_) (λj h=>?_) o
 ·conv=>rhs;rw[w]
  show yf _<|Vb _<|Uq _
 ·rw[p];rw[e]at hd;unfold Dsc at hd⊢;let⟨a,f,l⟩:=w8.mp hd;rw[w8];refine⟨a,?_,λx g y Y=>l x g y<|Uo.mp Y⟩;show zh.mpr λi j H h _=>r _ (Uo.mp<|xt H) _<|Uo.mp<|xt h
 ·rw[p,e,wg,wg,Uo]
 ·rw[xo];congr 1
  conv=>rhs;rw[w]
  rw[<-wy,<-wy,wz (by simp;omega),wz (by simp;omega)];simp
def uP(O:a9 0){X:v_ 0}(T:α4 0)(F:∀x∈Z,x<n)(hm:m<Z.length)(hs:Zu (Z.take<|m+1)){Q:YJ 0->SortSt->Prop}(k:∀r z t,0<r->r<=z.length->z.Perm Z->WX (z.take r)->A_ z pd t->Q (a0 r) t):j2 (D8 X.length Z.length m) Q st:=by
 unfold D8;let v:∀(z:v_ 0)(i:Nat),(∀x∈z,x<n)->0<i->i<=z.length->ER lt z i 0:=λz i N h0 o=>by
  unfold ER;rw[jW h0 o];intro x h y Y;let h:x=z.getD (i-1) 0:=by simpa using h
  let Y:y=z.getD (i-1) 0:=by simpa using Y
  rw[h,Y];show O.irr<|N _<|aO ⋯
 refine xb<|jV ?_;refine xb<|Vn (Ut (λi c t=>∃z q,c=(a7,i,q)/\z.Perm Z/\A_ z pd t/\Zu (z.take i)/\q<i/\ER lt z i q) (Q:=λc t=>∃z i q,c=(a7,i,q)/\i<=Z.length/\z.Perm Z/\A_ z pd t/\Zu (z.take i)/\q<i/\ER lt z i q) (λi c t h1 h2=>?_) (λc t=>?_) ⟨Z,0,rfl,Vw _,T,hs,⋯,v Z _ F ⋯ ⋯⟩) λc t H=>?_
 ·rintro⟨z,q,rfl,p,w,d,H,R⟩;let G:=p.length_eq;let N:∀x∈z,x<n:=λx h=>F x<|p.mem_iff.mp h;let o:=d.last O N ⋯ ⋯;let u:XD 0<n:=N _<|aO ⋯;let V:z.getD (i-1) 0<n:=N _<|aO ⋯;dsimp only;rw[show X.length+i-1=X.length+(i-1) by omega];refine xb<|oF O w N ⋯ ⋯ ?_;dsimp only;cases e:lt (XD 0) (z.getD (i-1) 0) with
  |true=>
   rw[if_pos rfl];let l:=λx h=>WQ u V (N x<|yc h) (YD u V e)<|o x h;by_cases c:q>0
   ·rw[Xy 0];refine xb<|BC O w H ⋯ d R λg C P D e U f=>?_;let j:=P.length_eq;let j:∀x∈g,x<n:=λx h=>N x<|P.mem_iff.mp h;refine xn ⟨g,0,rfl,P.trans p,f,D.more O j ⋯ (λx h=>by rw[U i<|wj _];show l x<|(e x).mp h),⋯,v g _ j ⋯ ⋯⟩
   ·rw[YC 0];show xn ⟨z,0,rfl,p,w,d.more O N ⋯ l,⋯,v z _ N ⋯ ⋯⟩
  |false=>
   rw[if_neg<|by decide];refine xb<|oF O w N ⋯ ⋯ ?_;dsimp only;cases e2:lt (z.getD (i-1) 0) (XD 0) with
   |true=>rw[if_pos rfl];show xn ⟨z,i,q,rfl,⋯,p,w,d,H,R⟩
   |false=>
    rw[if_neg<|by decide];let l:=λx h=>WQ u V (N x<|yc h) e2<|o x h;refine xn ⟨z,q+1,rfl,p,w,d.more O N ⋯ l,⋯,?_⟩;let lt':(z.take i).length=i:=by rw[ya];omega
    let ed:(z.take<|i+1).drop (i+1-(q+1+1))=(z.take i).drop (i-(q+1))++[XD 0]:=by rw[take_one ⋯,show i+1-(q+1+1)=i-(q+1) by omega,List.drop_append_of_le_length ⋯]
    let C:z.getD (i-1) 0∈(z.take i).drop (i-(q+1)):=by
     have:z.getD (i-1) 0∈(z.take i).drop (i-1):=by rw[jW ⋯ ⋯];simp
     rw[show i-1=(i-(q+1))+q by omega,<-List.drop_drop]at this;rw[show(i-(q+1))+q=i-1 by omega]at this;show y2 this
    let U:∀x∈(z.take i).drop (i-(q+1)),x∈z.take i:=λx h=>y2 h;intro x h y Y;rw[ed]at h Y;rcases wg.mp h with a|a
    ·rcases wg.mp Y with b|b
     ·show R x a y b
     ·let b:y=XD 0:=by simpa using b
      rw[b];show l x<|U x a
    ·let a:x=XD 0:=by simpa using a
     rw[a];rcases wg.mp Y with b|b
     ·show WQ (N y<|yc<|U y b) V u (R _ C y b) e
     ·let b:y=XD 0:=by simpa using b
      rw[b];show O.irr u
 ·rintro⟨z,q,rfl,p,w,d,H,R⟩;show⟨z,_,q,rfl,⋯,p,w,d,H,R⟩
 ·let⟨z,i,q,rfl,o,p,w,d,H,R⟩:=H;let G:=p.length_eq;let N:∀x∈z,x<n:=λx h=>F x<|p.mem_iff.mp h;dsimp only;by_cases c:q>0
  ·rw[Xy 0];refine xb<|BC O w H ⋯ d R λg C P D e U f=>?_;let j:=P.length_eq;rw[<-G,<-j];show yD O f (λx h=>N x<|P.mem_iff.mp h) ⋯ ⋯ D λr W S B L K J I=>k r W S B L (K.trans<|P.trans p) J I
  ·rw[YC 0];rw[<-G];show yD O w N ⋯ ⋯ d λr W S B L K J I=>k r W S B L (K.trans p) J I
def wZ(O:a9 0){X:v_ 0}(T:α4 0)(N:∀x∈Z,x<n)(H:0<Z.length){Q:YJ 0->SortSt->Prop}(k:∀r y t,0<r->r<=y.length->y.Perm Z->WX (y.take r)->A_ y pd t->Q (a0 r) t):j2 (countRun' X.length Z.length) Q st:=by
 rw[A8];let s1:WX (Z.take 1):=by have:=cH (l:=Z) (i:=0) H;rw[zx]at this;rw[this];show UE _ _
 refine xb<|Vn (Ut (λi c t=>t=st/\c=(a7,i)/\WX (Z.take i)) (Q:=λc t=>t=st/\∃r,c=(a7,r)/\0<r/\r<=Z.length/\WX (Z7 0)/\(r<Z.length->lt (Z.getD r 0) (Z.getD (r-1) 0)=true)) (λi c t h1 R=>?_) (λc t=>?_) ⟨rfl,rfl,s1⟩) λc t hq=>?_
 ·rintro⟨rfl,rfl,v⟩;dsimp only;rw[show X.length+i-1=X.length+(i-1) by omega];refine xb<|oF O T N R ⋯ ?_;dsimp only;cases e:lt (δG 0) (Z.getD (i-1) 0) with
  |true=>rw[if_pos rfl];show xn ⟨rfl,i,rfl,⋯,⋯,v,λ_=>e⟩
  |false=>rw[if_neg<|by decide];show xn ⟨rfl,rfl,v.more O N ⋯ R e⟩
 ·rintro⟨rfl,rfl,v⟩;show⟨rfl,_,rfl,⋯,⋯,v,λq=>by omega⟩
 ·let⟨rfl,r,rfl,g,f,a,F⟩:=hq;dsimp only;by_cases C:(r == Z.length)=true
  ·rw[if_pos C];show xn<|k r Z t g f (Vw _) a T
  rw[if_neg C];rw[beq_iff_eq]at C;let e:=F ⋯;let p:Z.getD r 0<n:=N _<|aO ⋯;let V:Z.getD (r-1) 0<n:=N _<|aO ⋯;let u:βg 0<n:=N _<|aO H;by_cases W:r>1
  ·rw[if_pos W];rw[show X.length+r-1=X.length+(r-1) by omega];let w:=oF (M:=M) (A:=A) (E:=E) (s:=s) O T N (i:=0) (j:=r-1) H ⋯ (Q:=λb S=>b=a0 _/\S=t) ⟨rfl,rfl⟩;rw[Nat.add_zero]at w;refine xb<|Vn w λb S hb=>?_;let⟨rfl,rfl⟩:=hb;dsimp only;cases e2:lt (βg 0) (Z.getD (r-1) 0) with
   |true=>rw[if_pos rfl];show xn<|k r Z S g f (Vw _) a T
   |false=>
    rw[if_neg<|by decide];let K:(Z7 0).length=r:=by rw[ya];omega
    refine xb (Aa T (D:=[]) (B:=Z7 0) (Y:=Z.drop r) (by simp) (by simp) (by simp[K]) λz m=>?_);rw[WH]at m;let P:((Z7 0).reverse++Z.drop r).Perm Z:=by
     have:=Vb (Z.drop r)<|Uq<|Z.take r
     rwa[yn]at this
    let lz:=P.length_eq;let I:=λx h=>N x<|P.mem_iff.mp h;let U:((Z7 0).reverse++Z.drop r).take r=(Z7 0).reverse:=by simp_all
    let eg:((Z7 0).reverse++Z.drop r).getD r 0=Z.getD r 0:=by have:=A9 (X:=(Z7 0).reverse) (Z:=Z.drop r) 0;rw[Vd,K,Nat.add_zero]at this;rw[this,xo,List.getElem?_drop,xo,Nat.add_zero]
    let d:Zu (((Z7 0).reverse++Z.drop r).take<|r+1):=by
     refine Dsc.more O I ⋯ (by rw[U];show a.rev) λx h=>?_;rw[U]at h;rw[eg];let h:=Uo.mp h;let J:=N x<|yc h;let g0:Z6 (βg 0)=false:=by
      let o:=a;unfold Srt at o;let L:=zg (l:=Z7 0) (i:=0) ⋯;let e0:(Z7 0)[0]'⋯=βg 0:=by rw[Vy];simp[H]
      rw[zx,e0]at L;rw[L]at o h;rcases wu.mp h with q|q
      ·rw[q];show O.irr u
      ·show(zb.mp o).1 x q
     show WQ p V J (YD p V e)<|O.tr _ _ _ V u J e2 g0
    rw[<-lz];show uP O m I ⋯ d λq G z b1 b2 b3 b4 b5=>k q G z b1 b2 (b3.trans P) b4 b5
  ·rw[if_neg W];obtain rfl:r=1:=⋯;let d:Zu (Z.take<|1+1):=by
    refine Dsc.more O N ⋯ (by rw[show Z.take 1=[βg 0] by have:=cH (l:=Z) (i:=0) H;rwa[zx]at this];show UE _ _) λx h=>?_;rw[show Z.take 1=[βg 0] by have:=cH (l:=Z) (i:=0) H;rwa[zx]at this]at h;let h:x=βg 0:=by simpa using h
    rw[h];show YD p u e
   show uP O T N ⋯ d k
end
def Da(P B Y)(y):bubble (d9<|P++(B++y::Y)) (P.length+B.length) B.length=d9 (P++(y::(B++Y))):=by
 apply Array.ext_getElem?;intro i;rw[getElem?_bubble (by rw[cR];simp) _ ⋯];let g:∀(l)(i:Nat),(d9 l)[i]?=(l[i]?).map pr:=λl i=>by simp[arr]
 simp[g,Nat.add_sub_cancel];by_cases h:i=P.length
 ·rw[if_pos h,h];congr 1;rw[wz ⋯];simp
 rw[γR 0];by_cases H:P.length<i/\i<=P.length+B.length
 ·rw[if_pos H];congr 1;rw[wz ⋯,xc ⋯,wz ⋯,show i-P.length=(i-1-P.length)+1 by omega,Vs,xc ⋯]
 rw[if_neg H];congr 1;by_cases z:i<P.length
 ·rw[xc z,xc z]
 ·obtain⟨k,rfl⟩:∃k,i=P.length+(B.length+(k+1)):=⟨i-(P.length+B.length+1),⋯⟩;rw[wz<|Va _ _,wz<|Va _ _,UD,wz<|Va _ _,UD,Vs,<-WI,Vs,wz<|Va _ _,UD]
def Ef{l k x:Nat}(K:k<=Z.length)(h:x∈(Z.take k).drop l):∃i,l<=i/\i<k/\x=δG 0:=by let⟨i,H,rfl⟩:=List.mem_iff_getElem.mp h;rw[yx,ya]at H;refine⟨l+i,⋯,⋯,?_⟩;rw[List.getElem_drop,Vy,xo,Uc ⋯];rfl
def Srt.at{lt:Nat->Nat->Bool}(O:a9 0)(N:∀x∈Z,x<n){k:Nat}(K:k<=Z.length)(h:WX (Z.take k))(H:i<=j)(z:j<k):lt (Z.getD j 0) (δG 0)=false:=by
 by_cases c:i=j
 ·rw[c];show O.irr<|N _<|aO ⋯
 ·let l:(Z.take k).length=k:=by simp_all
  have:=zh.mp h i j ⋯ ⋯ ⋯;rw[Vy,Vy]at this;let e:δG 0=Z[i]'⋯:=by simp[show i<Z.length by omega]
  let J:Z.getD j 0=Z[j]'⋯:=by simp[show j<Z.length by omega]
  rw[e,J];show this
def SK{l r:Nat}(c:¬ l >= r):l<=(l+r)/2/\(l+r)/2<r:=⋯
def SL{l r k x:Nat}(c:¬ l >= r)(a:r-l<=k-x):(l+r)/2-l<=k-(x+1):=⋯
def SM{l r k x:Nat}(c:¬ l >= r)(a:r-l<=k-x):r-((l+r)/2+1)<=k-(x+1):=⋯
def tD{lt:Nat->Nat->Bool}(O:a9 0){X:v_ 0}(T:α4 0)(nZ:∀x∈Z,x<n){ok:Nat}(hm:m<=Z.length)(hok:ok<=m)(hs:WX (Z.take ok)){Q:Bool->SortSt->Prop}(k:∀Z' aa,Z'.Perm Z->WX (Z'.take m)->A_ Z' pd aa->Q true aa):j2 (binarySort' X.length m ok) Q st:=by
 rw[binarySort'_eq]
 refine xb (Vn (Ut (I:=λk c aa=>c=(a7,())/\∃Z',Z'.Perm Z/\A_ Z' pd aa/\WX (Z'.take (min k m)))
  (Q:=λc aa=>c=(a7,())/\∃Z',Z'.Perm Z/\A_ Z' pd aa/\WX (Z'.take m)) ?step ?fin ?init) ?post)
 case post=>
  rintro c aa ⟨rfl,Z',p,T',h⟩
  exact xn<|k Z' aa p h T'
 case init=>
  refine⟨rfl,Z,Vw _,T,?_⟩
  by_cases h1:ok=0
  ·by_cases h2:m=0
   ·rw[h2,Nat.min_zero,List.take_zero];exact UT
   ·rw[show min (max ok 1) m=1 by omega]
    have:=cH (l:=Z) (i:=0) ⋯
    rw[zx]at this
    rw[this]
    exact UE _ _
  ·rwa[show min (max ok 1) m=ok by omega]
 case fin=>
  rintro c aa ⟨hc,Z',p,T',h⟩
  refine⟨hc,Z',p,T',?_⟩
  rwa[show min (max (max ok 1) m) m=m by omega]at h
 case step=>
  rintro k c aa hak hkn ⟨rfl,Z',p,T',hs'⟩
  rw[show min k m=k by omega]at hs'
  have lz:=p.length_eq
  have dv:k<Z'.length:=by rw[lz];exact xa hkn hm
  have nz:∀x∈Z',x<n:=λx hx=>nZ x<|p.mem_iff.mp hx
  have gn:∀i,i<Z'.length->βh 0<n:=λi hi=>nz _<|aO hi
  refine xb (Vn (Ut (I:=λx c ae=>ae=aa/\∃l r,c=(a7,l,r)/\l<=r/\r<=k/\r-l<=k-x/\
    (∀i,i<l->lt (βi 0) (βh 0)=false)/\(∀i,r<=i->i<k->lt (βi 0) (βh 0)=true))
   (Q:=λc ae=>ae=aa/\∃l r,c=(a7,l,r)/\l<=k/\
    (∀i,i<l->lt (βi 0) (βh 0)=false)/\(∀i,l<=i->i<k->lt (βi 0) (βh 0)=true)) ?istep ?ifin ?iinit) ?ipost)
  case iinit=>exact⟨rfl,0,k,rfl,zk _,wj _,Nat.sub_le_sub_left (zk _) _,λi hi=>absurd hi<|Nat.not_lt_zero _,λi h1 h2=>absurd h1<|Nat.not_le_of_lt h2⟩
  case ifin=>
   rintro c ae ⟨rfl,l,r,rfl,jc,hrk,hm,hlo,hhi⟩
   have:l=r:=Nat.le_antisymm jc<|Qb hm
   subst this
   exact⟨rfl,l,l,rfl,hrk,hlo,hhi⟩
  case istep=>
   rintro x c ae _ hxk ⟨rfl,l,r,rfl,jc,hrk,hm,hlo,hhi⟩
   dsimp only
   by_cases hge:l >= r
   ·rw[if_pos hge]
    have:l=r:=Nat.le_antisymm jc hge
    subst this
    exact xn ⟨rfl,l,l,rfl,hrk,hlo,hhi⟩
   ·rw[if_neg hge]
    let⟨m1,m2⟩:=SK hge
    have m3:=xa m2 hrk
    have m4:=Nat.lt_trans m3 dv
    refine xb<|oF O T' nz dv m4 ?_
    dsimp only
    cases e:lt (βi 0) (Z'.getD ((l+r)/2) 0) with
    |true=>
     rw[if_pos rfl]
     refine xn ⟨rfl,l,(l+r)/2,rfl,m1,zi m3,SL hge hm,hlo,λi h1 h2=>?_⟩
     cases e2:lt (βi 0) (βh 0) with
     |true=>rfl
     |false=>
      have:=WQ (gn ((l+r)/2) m4) (gn i<|Nat.lt_trans h2 dv) (gn k dv) (hs'.at O nz (zi dv) h1 h2) e2
      rw[e]at this;exact Yr (by decide)
    |false=>
     rw[if_neg<|by decide]
     refine xn ⟨rfl,(l+r)/2+1,r,rfl,m2,hrk,SM hge hm,λi h1=>?_,hhi⟩
     exact WQ (gn i<|UI (UW h1) m4) (gn ((l+r)/2) m4) (gn k dv) (hs'.at O nz (zi dv) (UW h1) m3) e
  case ipost=>
   rintro c ae ⟨rfl,l,r,rfl,hlk,hlo,hhi⟩
   show wpS _ _ _ _ (do moveDown' (X.length+k) (X.length+l);pure (WJ (a7,()))) _ _
   rw[moveDown'_eq]
   obtain⟨D,eD⟩:∃D,D=Z'.take l:=⟨_,rfl⟩
   obtain⟨B,eB⟩:∃B,B=(Z'.take k).drop l:=⟨_,rfl⟩
   have lD:D.length=l:=by rw[eD,ya];omega
   have lB:B.length=k-l:=by rw[eB,yx,ya];omega
   have et:Z'.take k=D++B:=by rw[eD,eB];exact dY hlk
   have ez:Z'=D++(B++(Z'.getD k 0::Z'.drop (k+1))):=by
    conv=>lhs;rw[<-yn k Z',et,wy]
    rw[zg dv]
    simp[dv]
   have eb:bubble (d9<|X++Z') (X.length+k) (X.length+k-(X.length+l))=d9 (X++(D++(Z'.getD k 0::(B++Z'.drop (k+1))))):=by
    have:=Da (pr:=pr) (X++D) B (Z'.drop<|k+1)<|Z'.getD k 0
    rw[wq,lD,lB,wy,wy,<-ez,show X.length+l+(k-l)=X.length+k by omega]at this
    rw[show X.length+k-(X.length+l)=k-l by omega]
    exact this
   refine xb<|wpS_modify<|xn ⟨rfl,D++(Z'.getD k 0::(B++Z'.drop (k+1))),?_,⟨?_,T'.k,T'.p,T'.f⟩,?_⟩
   ·refine Vj ?_ p
    conv=>rhs;rw[ez]
    exact yf _<|List.perm_middle.symm
   ·rw[<-eb,<-T'.a]
   ·rw[show min (k+1) m=k+1 by omega]
    have um:(D++(Z'.getD k 0::(B++Z'.drop (k+1)))).take (k+1)=D++(Z'.getD k 0::B):=by
     rw[show D++(Z'.getD k 0::(B++Z'.drop (k+1)))=(D++(Z'.getD k 0::B))++Z'.drop (k+1) by simp]
     rw[List.take_append_of_le_length (by simp;omega),zq (by simp;omega)]
    rw[um]
    rw[et]at hs'
    unfold Srt at hs'⊢
    let⟨a1,a2,a3⟩:=w8.mp hs'
    refine w8.mpr ⟨a1,zb.mpr ⟨λx hx=>?_,a2⟩,λx hx y hy=>?_⟩
    ·rw[eB]at hx
     let⟨i,i1,i2,rfl⟩:=Ef (zi dv) hx
     exact YD (gn k dv) (gn i<|Nat.lt_trans i2 dv)<|hhi i i1 i2
    ·rcases wu.mp hy with rfl|hy
     ·rw[eD]at hx
      let⟨i,i1,i2,rfl⟩:=Ef (l:=0) (Z:=Z') (k:=l) (x:=x) ⋯ (by rwa[zx])
      exact hlo i i2
     ·exact a3 x hx y hy
abbrev eX:Nat->i_ (v_ 0×Nat)->i_ (Nat×Nat×Nat)
 |_,[]=>[]
 |b,(u,w)::r=>(b,u.length,w)::eX (b+u.length) r
abbrev aM(g:i_ (v_ 0×Nat)):v_ 0:=(g.map Ww).flatten
def yE(g h):aM (g++h)=aM g++aM h:=by simp[aM]
def iB(u)(h):aM (u::h)=u.1++aM h:=by simp[aM]
def qY:aM []=[]:=rfl
def hW:∀(b)(g),(eX b g).length=g.length
 |_,[]=>rfl
 |b,(u,w)::r=>by change(eX _ r).length+1=_;rw[hW];rfl
def eJ:∀(b)(g h),eX b (g++h)=eX b g++eX (b+(aM g).length) h
 |b,[],h=>rfl
 |b,(u,w)::r,h=>by
  change _::eX _ (r++h)=_
  rw[eJ,iB,wq,<-WI];rfl
def KD{α:Type}(l r)(a b:α):(l++a::r).set l.length b=l++b::r:=by simp
def FL{α:Type}(l r)(a b:α):(l++a::b::r).eraseIdx (l.length+1)=l++a::r:=by rw[List.eraseIdx_append_of_length_le ⋯];simp
def BD{α:Type}(l)(a:α)(f):(l++[a]).modify l.length f=l++[f a]:=by
 apply UX;intro i;rw[List.getElem?_modify];by_cases h:l.length=i
 ·subst h;simp
 ·simp only[γR 0];by_cases H:i<l.length
  ·rw[xc H,xc H];simp
  ·rw[UY (by simp;omega),UY (by simp;omega)];rfl
structure Rn(pr:Nat->Keyed)(κ:VR)(lt:Nat->Nat->Bool)(n:Nat)(g:i_ (i_ Nat×Nat))(R:i_ Nat)(st:SortSt):Prop where
 a:arrOf st=arr pr (aM g++R)
 k:kindOf st=κ
 f:VQ st=none
 p:(y3 st).toList=eX 0 g
 s:∀u∈g,Srt lt u.1/\0<u.1.length
 q:(aM g++R).Perm (zo n)
variable{g:i_ (v_ 0×Nat)}
def Rn.sz{lt:Nat->Nat->Bool}{R:v_ 0}(h:o_ g R st):(y3 st).size=g.length:=by rw[<-Array.length_toList,h.p,hW]
def Rn.lo{lt:Nat->Nat->Bool}{R:v_ 0}(h:o_ g R st):∀x∈aM g++R,x<n:=λx H=>by have:=h.q.mem_iff.mp H;simpa using this
def Rn.len{lt:Nat->Nat->Bool}{R:v_ 0}(h:o_ g R st):(aM g).length+R.length=n:=by have:=h.q.length_eq;simpa using this
variable{S':i_ (v_ 0×Nat)}
def Rn.at{lt:Nat->Nat->Bool}{S:i_ (v_ 0×Nat)}{u:v_ 0×Nat}{R:v_ 0}(h:o_ (S++u::S') R st):(y3 st)[S.length]?=a0 ((aM S).length,u.1.length,u.2):=by rw[<-UB,h.p,eJ,V4,wz (by rw[hW];omega),hW,Nat.sub_self];rfl
def pZ{lt:Nat->Nat->Bool}(O:a9 0){S:i_ (v_ 0×Nat)}{u v:v_ 0×Nat}{R:v_ 0}(h:o_ (S++u::v::S') R st){Q:Bool->SortSt->Prop}(k:∀W t,W.length=u.1.length+v.1.length->o_ (S++(W,u.2)::S') R t->Q true t):j2 (mergeAt' S.length) Q st:=by
 let U:=h.s u (by simp);let V:=h.s v (by simp);let e:aM (S++u::v::S')++R=aM S++(u.1++(v.1++(aM S'++R))):=by simp[aM]
 let l:=h.lo;rw[e]at l;let P:(y3 st)[S.length+1]?=a0 ((aM S).length+u.1.length,v.1.length,v.2):=by
  let r:o_ ((S++[u])++v::S') R st:=by simp_all
  have:=r.at
  rw[wq]at this;simpa[aM] using this
 refine BB O U.1 V.1 (λx H=>l x<|by simp[H]) (λx H=>l x<|by simp[H]) U.2 V.2 h.k h.f (by rw[h.a,e]) h.at P λW t w o m j i g=>k W t (by rw[w.length_eq,wq]) ?_;let L:W.length=u.1.length+v.1.length:=by rw[w.length_eq,wq]
 let y:aM (S++(W,u.2)::S')++R=aM S++(W++(aM S'++R)):=by simp[aM]
 refine⟨by rw[m,y],i,g,?_,λz Z=>?_,?_⟩
 ·rw[j,Array.toList_eraseIdxIfInBounds,Array.toList_setIfInBounds,h.p,eJ,eJ]
  change(((eX 0 S++(_::_::_)).set _ _).eraseIdx _)=_
  rw[<-(hW 0 S),KD,FL]
  change eX 0 S++(_::eX _ S')=eX 0 S++(_::eX _ S')
  rw[V4,L,WI]
 ·rcases wg.mp Z with a|a
  ·show h.s z (by simp[a])
  ·rcases wu.mp a with rfl|a
   ·show⟨o,by change 0<W.length;omega⟩
   ·show h.s z (by simp[a])
 ·have:=h.q;rw[e]at this;rw[y];refine Vj (yf _ ?_) this;have:=Vb (aM S'++R) w
  rwa[wy u.1]at this
def Hj{α:Type}{g:ZH 0}(h:i+1<g.length):∃S u v z,g=S++u::v::z/\S.length=i:=by
 refine⟨g.take i,g[i],g[i+1],g.drop<|i+2,?_,by rw[ya];omega⟩
 conv=>lhs;rw[<-yn i g,zg ⋯,zg ⋯]
abbrev uQ(size lo n:Nat):b_ (ForInStep<|jh Unit×Nat):=do
 match(y3<|<-get).back? with
 |some (s1,n1,_)=>
  let pw:=power' size (2*s1+n1) (2*s1+n1+n1+n) size
  let r <-forIn [0:size] ((a7:jh Unit),()) λ_ _=>do
   let p:=y3<|<-get
   match(if p.size>1 then p[p.size-2]? else a7) with
   |some (_,_,older)=>
    if older<=pw then pure (.done (a7,())) else do
     let b <-mergeAt' (p.size-2)
     if !b then pure (.done (a0 (),())) else pure (.yield (a7,()))
   |_=>pure (.done (a7,()))
  match r.1 with
  |some a=>pure (.done (a0 a,lo))
  |none=>do
   modify λs=>VW s<|(y3 s).modify ((y3 s).size-1) λ(st,len,_)=>(st,len,pw)
   modify λs=>VW s<|(y3 s).push (lo,n,0)
   pure (.yield (a7,lo+n))
 |_=>do
  modify λs=>VW s<|(y3 s).push (lo,n,0)
  pure (.yield (a7,lo+n))
abbrev Ab(size dg lo:Nat):b_ (ForInStep<|jh Unit×Nat):=
 if lo >= size then pure (.done (a7,lo)) else do
  match(<-countRun' lo (size-lo)) with
  |some found=>
   if found<dg then do
    rule "list.sort.binary-insertion"
    let b <-binarySort' lo (min (size-lo) dg) found
    if !b then pure (.done (a0 (),lo)) else uQ size lo (min (size-lo) dg)
   else uQ size lo found
  |_=>pure (.done (a0 (),lo))
abbrev MF(size:Nat):b_ Unit:=do
 for _ in [0:size] do
  let p:=y3<|<-get
  if p.size<=1 then break
  let i:=p.size-2
  let before:=if i>0 then p[i-1]?.map (·.2.1) else a7
  let i:=if before.any (· < (p[i+1]?.elim 0 (·.2.1))) then i-1 else i
  if !(<-mergeAt' i) then return
def Ac:sortRuns'=(do
 let size:=(arrOf<|<-get).size
 let r <-forIn [0:size] ((a7:jh Unit),0) λ_ c=>Ab size (minRun' size size 0) c.2
 match r.1 with
 |some a=>pure a
 |none=>MF size):=by
 rw[sortRuns'_eq]
 refine bind_congr λst=>?_
 dsimp only
 refine congr (congrArg _<|congrArg _<|funext λx=>funext λc=>?_)<|funext λr=>?_
 ·unfold Ab
  by_cases h:c.2 >= (arrOf st).size
  ·rw[if_pos h,if_pos h]
  ·rw[γR 0,γR 0]
   refine bind_congr λo=>?_
   cases o with
   |none=>rfl
   |some f=>
    dsimp only
    by_cases h2:f<minRun' (arrOf st).size (arrOf st).size 0
    ·rw[if_pos h2,if_pos h2]
     refine bind_congr λ_=>?_
     refine bind_congr λb=>?_
     cases b
     ·rfl
     ·unfold uQ
      refine bind_congr λi6=>?_
      cases e:(y3 i6).back? with
      |none=>rfl
      |some t=>
       let⟨a1,a2,a3⟩:=t
       dsimp only
       refine bind_congr λr=>?_
       let⟨r1,r2⟩:=r
       cases r1 <;> rfl
    ·rw[if_neg h2,if_neg h2]
     unfold uQ
     refine bind_congr λi6=>?_
     cases e:(y3 i6).back? with
      |none=>rfl
      |some t=>
       let⟨a1,a2,a3⟩:=t
       dsimp only
       refine bind_congr λr=>?_
       let⟨r1,r2⟩:=r
       cases r1 <;> rfl
 ·let⟨r1,r2⟩:=r
  cases r1
  ·rfl
  ·rfl
def Rn.push{lt:Nat->Nat->Bool}(h:o_ g Z st)(z:0<m)(M:m<=Z.length)(hs:WX (U_ 0)):o_ (g++[(U_ 0,0)]) (δH 0) (VW st<|(y3 st).push ((aM g).length,m,0)):=by
 let l:(U_ 0).length=m:=by simp_all
 let e:aM (g++[(U_ 0,0)])++δH 0=aM g++Z:=by rw[yE,iB,qY,Ua,wy,yn]
 refine⟨by rw[e];show h.a,h.k,h.f,?_,λu H=>?_,by rw[e];show h.q⟩
 ·rw[Array.toList_push,h.p,eJ,V4]
  change _=eX 0 g++[(_,(U_ 0).length,0)]
  rw[l]
 ·rcases wg.mp H with a|a
  ·show h.s u a
  ·let a:u=(U_ 0,0):=by simpa using a
   rw[a];show⟨hs,by change 0<(U_ 0).length;omega⟩
def Rn.pow{lt:Nat->Nat->Bool}{S:i_ (v_ 0×Nat)}{u:v_ 0×Nat}(h:o_ (S++[u]) Z st)(pw):o_ (S++[(u.1,pw)]) Z (VW st<|(y3 st).modify ((y3 st).size-1) λx=>(x.1,x.2.1,pw)):=by
 let e:aM (S++[(u.1,pw)])=aM (S++[u]):=by simp[aM]
 let z:=h.sz;rw[wq]at z;refine⟨by rw[e];show h.a,h.k,h.f,?_,λv H=>?_,by rw[e];show h.q⟩
 ·rw[Array.toList_modify,h.p,eJ,eJ,z]
  change(eX 0 S++[_]).modify _ _=eX 0 S++[_]
  have:=BD (eX 0 S) (0+(aM S).length,u.1.length,u.2)<|λx=>(x.1,x.2.1,pw);rw[hW]at this;show this
 ·rcases wg.mp H with a|a
  ·show h.s v (by simp[a])
  ·let a:v=(u.1,pw):=by simpa using a
   rw[a];show h.s u (by simp)
def Eg{α:Type}{g:ZH 0}(h:g≠[]):∃S u,g=S++[u]:=⟨g.dropLast,g.getLast h,(List.dropLast_concat_getLast h).symm⟩
def uR{lt:Nat->Nat->Bool}(O:a9 0)(h:o_ g Z st)(o:0<m)(l:m<=Z.length)(hs:WX (U_ 0)){Q:ForInStep (jh Unit×Nat)->SortSt->Prop}(k:∀G t,(aM G).length=(aM g).length+m->o_ G (δH 0) t->Q (.yield (a7,(aM g).length+m)) t):j2 (uQ n (aM g).length m) Q st:=by
 have d:(U_ 0).length=m:=by simp_all
 have f:∀G t,(aM G).length=(aM g).length->o_ G Z t->j2 (do
   modify λs=>VW s<|(y3 s).push ((aM g).length,m,0)
   pure _) Q t:=λG t e r=>by
  refine xb<|wpS_modify<|xn ?_
  refine k (G++[(U_ 0,0)]) _ ?_ ?_
  ·rw[yE,iB,qY,Ua,wq,e,d]
  ·rw[<-e];exact r.push o l hs
 refine xb<|wpS_get ?_
 by_cases y:g=[]
 ·have b:(y3 st).back?=a7:=by rw[<-Array.getLast?_toList,h.p,y];rfl
  rw[b]
  exact f g st rfl h
 ·let⟨S,u,v⟩:=Eg y
  have b:(y3 st).back?=a0 ((aM S).length,u.1.length,u.2):=by
   rw[<-Array.getLast?_toList,h.p,v,eJ,V4]
   show(eX 0 S++[_]).getLast?=_
   rw[List.getLast?_concat]
  rw[b]
  dsimp only
  generalize power' n _ _ n=pw
  refine xb<|Vn (Ut (λi c t=>c=(a7,())/\∃G,G≠[]/\(aM G).length=(aM g).length/\o_ G Z t) (λi c t Y X=>?_) (λc t q=>q) ⟨rfl,g,y,rfl,h⟩) λc t q=>?_
  ·rintro⟨rfl,G,H,e,r⟩
   refine xb<|wpS_get ?_
   rw[r.sz]
   by_cases c:G.length>1
   ·rw[Xy 0]
    let⟨x,U,P,w,z,L⟩:=Hj (g:=G) (i:=G.length-2) ⋯
    have j:w=[]:=by
     have:=Y0 z
     simp at this
     exact List.length_eq_zero_iff.mp ⋯
    subst j
    rw[<-L]
    have a:o_ _ Z t:=z▸r
    rw[a.at]
    dsimp only
    by_cases C:U.2<=pw
    ·rw[if_pos C]
     exact xn ⟨rfl,G,H,e,r⟩
    ·rw[if_neg C]
     refine xb<|pZ O a λW T V R=>?_
     refine xn ⟨rfl,_,by simp,?_,R⟩
     rw[<-e,z]
     simp[aM]
     omega
   ·rw[YC 0]
    exact xn ⟨rfl,G,H,e,r⟩
  ·let⟨rfl,G,H,e,r⟩:=q
   dsimp only
   let⟨x,U,rfl⟩:=Eg H
   refine xb<|wpS_modify ?_
   exact Zn (by rw[<-e];simp[aM])<|r.pow pw
def Dc{lt:Nat->Nat->Bool}(O:a9 0)(mr)(h:o_ g Z st){Q:ForInStep (jh Unit×Nat)->SortSt->Prop}(K:(aM g).length=n->Q (.done (a7,(aM g).length)) st)(k:∀G z t,(aM g).length<(aM G).length->o_ G z t->Q (.yield (a7,(aM G).length)) t):j2 (Ab n mr (aM g).length) Q st:=by
 unfold Ab;let L:=h.len;by_cases c:(aM g).length >= n
 ·rw[Xy 0];show xn<|K ⋯
 rw[YC 0];let T:Tl pr κ _ Z _ st:=⟨h.a,h.k,rfl,h.f⟩;let N:=λx H=>h.lo x<|v9 _ H;let Y:n-(aM g).length=Z.length:=⋯;rw[Y];let U:∀z t,z.Perm Z->Tl pr κ _ z (y3 st) t->o_ g z t:=λz t p y=>⟨y.a,y.k,y.f,by rw[y.p];show h.p,h.s,(yf _ p).trans h.q⟩;refine xb<|wZ O T N ⋯ λr z t i e w o l=>?_;dsimp only;let W:=w.length_eq;by_cases C:r<mr
 ·rw[if_pos C];refine xb<|jV ?_;refine xb<|tD O l (λx H=>N x<|w.mem_iff.mp H) (m:=min _ mr) ⋯ ⋯ o λj u b B d=>?_;let X:=b.length_eq;show uR O (U j u (b.trans w) d) ⋯ ⋯ B λG S v C=>v▸k G _ S ⋯ C
 ·rw[if_neg C];show uR O (U z t w l) i e o λG S v C=>v▸k G _ S ⋯ C
def Rn.few{lt:Nat->Nat->Bool}{R:v_ 0}(h:o_ g R st):g.length<=n:=by
 have:∀g:i_ _,(∀u∈g,0<u.1.length)->g.length<=(aM g).length:=by
  intro g
  induction g with
  |nil=>intro _;show wj _
  |cons u r i=>intro H;rw[iB,wq,yw];have:=i λv V=>H v (YI V);have:=H u<|wa ..;omega
 have:=this g λu H=>(h.s u H).2;have:=h.len;omega
def FM{lt:Nat->Nat->Bool}(O:a9 0)(h:o_ g [] st){Q:Unit->SortSt->Prop}(k:∀W t,W.Perm (zo n)->WX W->arrOf t=d9 W->VQ t=a7->Q () t):j2 (MF n) Q st:=by
 refine xb<|Vn (Ut (λi c t=>c=(a7,())/\∃G,(G.length<=1\/G.length+i<=n)/\o_ G [] t) (Q:=λc t=>c=(a7,())/\∃G,G.length<=1/\o_ G [] t) (λi c t o m=>?_) (λc t=>?_) ⟨rfl,g,.inr h.few,h⟩) λc t y=>?_
 ·rintro⟨rfl,G,x,r⟩;refine xb<|wpS_get ?_;dsimp only;rw[r.sz];by_cases c:G.length<=1
  ·rw[Xy 0];show xn ⟨rfl,G,c,r⟩
  ·rw[YC 0];generalize e:(if Option.any _ _=true then G.length-2-1 else G.length-2)=j;let J:j+1<G.length:=by
    let H:∀b,(if b=true then G.length-2-1 else G.length-2)+1<G.length:=λb=>by
     cases b
     ·rw[if_neg<|by decide];omega
     ·rw[if_pos rfl];omega
    rw[<-e];show H _
   let⟨S,u,v,p,rfl,rfl⟩:=Hj J;refine xb<|pZ O r λW T l w=>?_;refine xn ⟨rfl,_,?_,w⟩;simp at x c⊢;omega
 ·rintro⟨rfl,G,x,r⟩;show⟨rfl,G,⋯,r⟩
 ·let⟨rfl,G,x,r⟩:=y;refine xn ?_;let R:=r.a;let z:=r.q;rw[Ua]at R z;refine k _ t z ?_ R r.f
  match G,x,r with
  |[],_,_=>exact UT
  |[u],_,r=>rw[iB,qY,Ua];show(r.s u<|by simp).1
def xG{lt:Nat->Nat->Bool}(O:a9 0)(h:arrOf st=d9 (zo n))(K:WU 0=κ)(p:y3 st=#[])(hf:VQ st=a7){Q:Unit->SortSt->Prop}(k:∀W t,W.Perm (zo n)->WX W->arrOf t=d9 W->VQ t=a7->Q () t):j2 sortRuns' Q st:=by
 rw[Ac];refine xb<|wpS_get ?_;rw[h,cR,Wr];let z:o_ [] _ st:=⟨h,K,hf,by rw[p];rfl,λu U=>absurd U<|by simp,Vw _⟩;refine xb<|Vn (Ut (λi c t=>∃g R,c=(a7,(aM g).length)/\i<=(aM g).length/\o_ g R t) (Q:=λc t=>∃g,c.1=a7/\o_ g [] t) (λi c t x w=>?_) (λc t=>?_) ⟨[],_,rfl,zk _,z⟩) λc t q=>?_
 ·rintro⟨g,R,rfl,H,r⟩;let l:=r.len;refine Dc O _ r (λe=>?_) λG Z S e y=>?_
  ·obtain rfl:R=[]:=List.length_eq_zero_iff.mp ⋯;show⟨g,rfl,r⟩
  ·show⟨G,Z,rfl,⋯,y⟩
 ·rintro⟨g,R,rfl,H,r⟩;let l:=r.len;obtain rfl:R=[]:=List.length_eq_zero_iff.mp ⋯;show⟨g,rfl,r⟩
 ·let⟨g,e,r⟩:=q;rw[e];show FM O r k
variable{ks:Xu 0}{prog:f_}
def Hk(L:ks.length=vs.length)(L:Nat->Nat->Bool)
  (tr:∀i j k,i<vs.length->j<vs.length->k<vs.length->L j i=false->L k j=false->L k i=false) (a:∀i j,i<vs.length->j<vs.length->L i j=true->L j i=false)
  (l:∀i j,i<vs.length->j<vs.length->∀Q,Q (L i j) s->cu (keyLt' κ (γp zc)<|ks.getD j zc) Q (λ_ _=>False) s):
  cu ((sortRuns').run<|SortSt.mk' κ (ks.toArray.zip vs.toArray) #[] 7 a7) (λr K=>K=s/\∃p:v_ 0,p.Perm (α2 0)/\p.Pairwise (λi j=>L j i=false)/\(arrOf r.2).map (·.2)=(p.map λi=>X7 zc).toArray/\VQ r.2=a7) E s:=by
 let O:Ask (Q_ w) A E s κ (λi=>(γp _,X7 zc)) _ L:=⟨tr,a,λst i j K h J Q q=>by rw[lt'_eq];refine xb<|wpS_get ?_;rw[K];refine xb<|wpS_lift<|U3<|U8 (l i j h J (λb K=>b=L i j/\K=s) ⟨rfl,rfl⟩) (λb K B=>?_) λ_ _ f=>f.elim;let⟨rfl,rfl⟩:=B;show⟨rfl,xn q⟩⟩;let e:ks.toArray.zip vs.toArray=arr (λi=>(γp zc,X7 zc)) (α2 0):=by
  apply Array.toList_inj.mp;apply UX;intro i;unfold arr;by_cases h:i<vs.length
  ·let H:i<ks.length:=⋯;simp[h,H,VN]
  ·simp[h];omega
 refine xG O (st:=SortSt.mk' κ (ks.toArray.zip _) #[] 7 a7) e rfl rfl rfl (Q:=λ_ O=>∃p:v_ 0,p.Perm (zo _)/\p.Pairwise (λi j=>L j i=false)/\(arrOf O).map (·.2)=(p.map λi=>X7 _).toArray/\VQ O=a7) λW O w1 w2 w3 w4=>⟨W,w1,w2,?_,w4⟩;rw[w3];unfold arr;simp
abbrev Eh(ifs:i_ g_)(env:Env):Sem Bool:=forIn ifs true λc r=>if r=true then do let ok <-isTrue c env (eval c env);pure (WJ ok) else pure (WJ r)
variable{E':(d6->d7->Prop)}{R:(Result->d7->Prop)}{env:Env}{ifs:i_ g_}{iter:g_}{scope:Scope}
def xH{elt target:g_}{it acc:d6}(E:∀x e,E' x e->notedBy (Q_ w) A env (λx f=>R (.error x) f) x e)(I:(Nat->d7->Prop))(T:∀n s,I n s->cu (pyNext it) (λr S=>match r with
   |none=>R (.ok .next) S
   | some v=>cu (letOwnedTupleGo target it v) (fun _ z=>cu (assign target env v) (fun _ p=>
     cu (Eh ifs env) (λO y=>
      if O=true then c8 prog w A (eval elt env) (λx o=>cu (call (.builtin "list.append") [acc,x]) (λ_ l=>∃m,m<n/\I m l) E' o) E' y
      else ∃m,m<n/\I m y) E' p) E' z) E' S) E' s)(n)(h:I n s):
  codeAny (Q_ w) A (.compLoop (.ListComp elt [⟨target,iter,ifs,0⟩] scope pos) 0 it acc env) R s:=by
 refine codeAny_loop rfl I (λn s d=>?_) n h;refine wpAny_noted<|U8 (?_:k_ A (compTurn _ 0 it acc env) _ E' s) (λ_ _ q=>q) E;rw[compTurn_list];refine vy<|wpAny_standAt<|vy<|U8 (T n s d) (λr S u=>?_) λ_ _ H=>H;cases r with
 |none=>exact v8 u
 |some v=>
  refine vy<|U8 u (λ_ z k=>?_) λ_ _ H=>H;refine vy<|U8 k (λ_ p j=>vy<|U8 j (λO y t=>?_) λ_ _ H=>H) λ_ _ H=>H;cases O with
  |false=>exact v8 ⟨rfl,t⟩
  |true=>exact vy<|vy<|U8 t (λx o i=>vy (U8 i (λ_ l g=>v8 (v8 ⟨rfl,g⟩)) λ_ _ H=>H)) λ_ _ H=>H
abbrev iC(cells:i_ (Str×d8)):i_ (Str×NameKind)->i_ (Str×d8)->i_ (Str×d8)
 |[],cs=>cs
 |(n,k)::r,cs=>iC cells r (if(k == Uw)=true then(n,(cells.lookup n).getD 0)::cs else cs)
def xI(h:∀y∈scope.names,y.2=Uw->∃c,env.cells.lookup y.1=a0 c):closureFor scope env=pure (Zi scope.names []):=by
 have g:∀(a:i_ _)(s:i_ _),(∀y∈a,y.2=Uw->∃c,env.cells.lookup y.1=a0 c)->
   (forIn a s λx(r:i_ _)=>match x with
    |(m,d)=>if(d == Uw)=true then(do let y <-cellOf env m;pure (WJ ((m,y)::r))) else(pure (WJ r):Sem _))=(pure (Zi a s):Sem _):=by
  intro a
  induction a with
  |nil=>intro s _;rfl
  |cons y r I=>
   intro s Y
   let⟨n,k⟩:=y
   rw[List.forIn_cons]
   have i:=λC=>I C λy M=>Y y<|wb _ M
   by_cases H:(k == Uw)=true
   ·let⟨c,z⟩:=Y _ wa (cA H)
    have E:cellOf env n=pure c:=by unfold cellOf;rw[show env.cells.lookup n=a0 c from z]
    have e:Zi ((n,k)::r) s=Zi r ((n,c)::s):=by
     show iC _ r (if _=true then _ else _)=_
     rw[if_pos H,show env.cells.lookup n=a0 c from z];rfl
    rw[e,<-i _]
    simp only[H,if_true,E,pure_bind]
   ·have e:Zi ((n,k)::r) s=Zi r s:=by
     show iC _ r (if _=true then _ else _)=_
     rw[if_neg H]
    rw[e,<-i s]
    simp only[H]
    try rfl
 have:=g _ [] h
 unfold closureFor
 simpa using this
def sF{cells:i_ (Str×d8)}{x:Str}{c:d8}:∀(names)(s),(iC cells names s).lookup x=a0 c->s.lookup x=a0 c\/(∃y∈names,y.1=x/\y.2=Uw/\c=(cells.lookup x).getD 0)
 |[],_,h=>.inl h
 |(n,k)::r,s,h=>by
  rcases sF r _ h with H|⟨y,Y,e⟩
  ·by_cases K:(k == Uw)=true
   ·rw[if_pos K]at H;by_cases X:x=n
    ·subst X;simp only[ym,beq_self_eq_true]at H;show .inr ⟨(x,k),wa,rfl,cA K,(yi H).symm⟩
    ·have:(x == n)=false:=by simpa using X
     simp[ym,this]at H;show .inl H
   ·rw[if_neg K]at H;show .inl H
  ·show .inr ⟨y,YI Y,e⟩
def uS{cells:i_ (Str×d8)}{x:Str}:∀(names)(s),((∃c,s.lookup x=a0 c)\/∃y∈names,y.1=x/\y.2=Uw)->∃c,(iC cells names s).lookup x=a0 c
 |[],_,h=>by
  rcases h with h|⟨y,H,_⟩
  ·show h
  ·cases H
 |(n,k)::r,s,h=>by
  refine uS r _ ?_;rcases h with⟨c,h⟩|⟨y,H,e,E⟩
  ·left;by_cases K:(k == Uw)=true
   ·rw[if_pos K];by_cases X:x=n
    ·subst X;simp
    ·have:(x == n)=false:=by simpa using X
     show⟨c,by simp[ym,this];show h⟩
   ·rw[if_neg K];show⟨c,h⟩
  ·rcases wu.mp H with rfl|H
   ·left;rw[if_pos<|cA E];subst e;simp
   ·show .inr ⟨y,H,e,E⟩
abbrev jH(os:Scope)(oN:yp 0)(sc:Scope)(N:yp 0)(js:i_ (YJ 0)):Bool:=
 (match sc.kind with|.function=>true|_=>false)&&sc.names.all (λy=>match y.2 with
  |.cell=>(match sc.names.lookup y.1 with|some .cell=>true|_=>false)
  |_=>true) &&
 sc.names.all (λy=>match y.2 with
  |.local=>(match sc.names.lookup y.1 with|some .local=>true|_=>false)
  |.free=>(match sc.names.lookup y.1,os.names.lookup y.1 with|some .free,a0 .cell=>true|some .free,a0 .free=>true|_,_=>false)
  |_=>true) &&
 js.length == N.length&&(js.zip N).all (λp=>match p.1 with
  |none=>true
  |some j=>(match oN[j]? with|some x=>decide (x=p.2)|none=>false)&&(match sc.names.lookup p.2 with|some .free=>true|_=>false))
structure NW(os:Scope)(oN:i_ Str)(sc:Scope)(N:i_ Str)(js:i_ (jh Nat)):Prop where
 kind:sc.kind=.function
 own:∀y∈sc.names,y.2=.cell->sc.names.lookup y.1=some .cell
 nm:∀y∈sc.names,y.2=.local->sc.names.lookup y.1=some .local
 fr:∀y∈sc.names,y.2=.free->os.names.lookup y.1=some .cell\/os.names.lookup y.1=some .free
 len:js.length=N.length
 cap:∀(i j:Nat),js[i]?=some (some j)->∃x,N[i]?=some x/\oN[j]?=some x/\sc.names.lookup x=some .free
variable{js:i_ (YJ 0)}{oN:yp 0}{os sc:Scope}
def FN(h:XX N js=true):NW os oN sc N js:=by
 unfold jH at h;simp only[yq]at h;let⟨⟨⟨⟨z,u⟩,w⟩,v⟩,s⟩:=h;refine⟨?_,λy H e=>?_,λy H e=>?_,λy H e=>?_,cA v,λi j e=>?_⟩
 ·cases K:sc.kind <;> rw[K]at z <;> exact β9 xh
 ·have:=xi.mp u y H;rw[e]at this;cases l:sc.names.lookup y.1 with
  |none=>rw[l]at this;show Yr xh
  |some k=>cases k <;> rw[l]at this <;> exact Yr xh
 ·have:=xi.mp w y H;rw[e]at this;dsimp only at this;cases l:sc.names.lookup y.1 with
  |none=>rw[l]at this;show Yr xh
  |some k=>cases k <;> rw[l]at this <;> exact Yr xh
 ·have:=xi.mp w y H;rw[e]at this;dsimp only at this;cases l:sc.names.lookup y.1 with
  |none=>rw[l]at this;show Yr xh
  |some k=>
   rw[l]at this;cases o:os.names.lookup y.1 with
   |none=>rw[o]at this;cases k <;> exact Yr xh
   |some r=>rw[o]at this;cases k <;> cases r <;> first|exact .inl rfl|exact .inr rfl|exact Yr xh
 ·let n:js.length=N.length:=by simpa using v
  let⟨I,E⟩:=X2 0;let q:i<N.length:=⋯;let Z:(js.zip N)[i]?=a0 (a0 j,N[i]):=by rw[VN];show⟨e,by simp⟩
  have:=xi.mp s _<|ye Z;simp at this;let⟨t,T⟩:=this;refine⟨N[i],by simp,?_,?_⟩
  ·cases o:oN[j]? with
   |none=>rw[o]at t;show absurd t xh
   |some x=>rw[o]at t;rw[of_decide_eq_true t]
  ·cases l:sc.names.lookup N[i] with
   |none=>rw[l]at T;show absurd T xh
   |some k=>rw[l]at T;cases k <;> first|rfl|exact absurd T xh
def cT{κ:Type}{x:Str}{k:κ}:∀{l:i_ (Str×κ)},l.lookup x=a0 k->(x,k)∈l
 |[],h=>by simp at h
 |(n,v)::r,h=>by
  by_cases H:x=n
  ·subst H;simp[ym]at h;cases h
   show wa
  ·have:(x == n)=false:=by simpa using H
   simp[ym,this]at h;show YI<|cT h
def mK{sc:Scope}{env:Env}:∀{names:i_ (Str×NameKind)}{x:Str}{k:NameKind},(names.map λ(n,k)=>if(k == Uw&&env.scope.kind == .function&&γq 0 == a0 .cell) then(n,WK) else(n,k)).lookup x=a0 k->
  names.lookup x=a0 k\/(k=.cell/\names.lookup x=a0 .free)
 |[],_,_,h=>by simp at h
 |(n,q)::r,x,k,h=>by
  let i:=@mK sc env r x k;by_cases c:(q == Uw&&env.scope.kind == .function&&γq 0 == a0 .cell)=true
  ·simp only[xg]at h;rw[Xy 0]at h;let Q:q=.free:=by simp only[yq]at c;simpa using c.1.1
   by_cases H:x=n
   ·subst H;simp only[ym,beq_self_eq_true]at h⊢;show .inr ⟨(yi h).symm,by rw[Q]⟩
   ·let e:(x == n)=false:=by simpa using H
    simp only[ym,e]at h⊢;show i h
  ·simp only[xg]at h;rw[YC 0]at h;by_cases H:x=n
   ·subst H;simp only[ym,beq_self_eq_true]at h⊢;show .inl h
   ·let e:(x == n)=false:=by simpa using H
    simp only[ym,e]at h⊢;show i h
def qA{env:Env}:∀{names:i_ (Str×NameKind)}{x:Str},names.lookup x=a0 .free->
  (names.map λ(n,k)=>if(k == Uw&&env.scope.kind == .function&&γq 0 == a0 .cell) then(n,WK) else(n,k)).lookup x=a0 .free\/
  (names.map λ(n,k)=>if(k == Uw&&env.scope.kind == .function&&γq 0 == a0 .cell) then(n,WK) else(n,k)).lookup x=a0 .cell
 |[],_,h=>by simp at h
 |(n,q)::r,x,h=>by
  let i:=@qA env r x;by_cases c:(q == Uw&&env.scope.kind == .function&&γq 0 == a0 .cell)=true
  ·simp only[xg];rw[Xy 0];by_cases H:x=n
   ·subst H;simp only[ym,beq_self_eq_true];show .inr trivial
   ·let e:(x == n)=false:=by simpa using H
    simp only[ym,e]at h⊢;show i h
  ·simp only[xg];rw[YC 0];by_cases H:x=n
   ·subst H;simp only[ym,beq_self_eq_true]at h⊢;show .inl h
   ·let e:(x == n)=false:=by simpa using H
    simp only[ym,e]at h⊢;show i h
def aZ:∀(names)(n)(a),δh a=δh []++a
 |[],_,_=>rfl
 |(x,k)::r,n,a=>by
  unfold Um;split
  ·rw[aZ r _ _,aZ r _ [(x,n)],wy];rfl
  ·show aZ r n a
open H in
def kO{x:Str}{c:d8}:∀{names:i_ (Str×NameKind)}{n:Nat},(x,c)∈δh []->(x,WK)∈names
 |[],_,h=>by cases h
 |(y,k)::r,n,h=>by
  unfold Um at h;split at h
  ·rename_i H;rw[aZ,wg]at h;rcases h with h|h
   ·show YI (kO h)
   ·let E:x=y:=congrArg Ww<|wx.mp h;let e:k=.cell:=by simpa using H
    rw[E,e];show wa
  ·show YI (kO h)
def sG{α:Type}{x:Str}{c:α}:∀{l:i_ (Str×α)},(x,c)∈l->∃d,l.lookup x=a0 d
 |(y,d)::r,h=>by
  by_cases e:x=y
  ·subst e;show⟨d,by simp⟩
  ·let z:(x == y)=false:=by simpa using e
   rcases wu.mp h with q|q
   ·show absurd (congrArg Ww q) e
   ·let⟨D,H⟩:=sG q;show⟨D,by simp[ym,z];show H⟩
def fM{x:Str}:∀{names:i_ (Str×NameKind)}{n:Nat},(x,WK)∈names->∃c,(δh []).lookup x=a0 c
 |(y,k)::r,n,h=>by
  let g:∃c,(x,c)∈Um n ((y,k)::r) []:=by
   rcases wu.mp h with q|q
   ·let E:x=y:=congrArg Ww q;let e:k=.cell:=(congrArg Prod.snd q).symm;refine⟨n,?_⟩;unfold Um;rw[if_pos (by rw[e];rfl),aZ,E];show v9 _ wa
   ·unfold Um;split
    ·let⟨c,H⟩:=fM q;rw[aZ];show⟨c,xr _<|mem_of_lookup H⟩
    ·let⟨c,H⟩:=fM q;show⟨c,mem_of_lookup H⟩
  let⟨c,H⟩:=g;show sG H
def qB{α:Type}{x:Str}:∀{l r:i_ (Str×α)},(l++r).lookup x=(l.lookup x).or (r.lookup x)
 |[],_=>by simp
 |(y,d)::l,r=>by
  cases e:x == y with
  |true=>simp[ym,e]
  |false=>simp[ym,e];show qB
variable{builtins globals:d8}{closure:i_ (Str×d8)}{code:d6}{func:jh d8}
def qZ{outer:Env}{Q:(Env->d7->Prop)}(h:Q (newEnv scope ((s).heap.objs.size) globals (Um (s.heap.objs.size+1) scope.names closure) qual func code (a0 outer) builtins) {s with heap:=pushCells (s.heap.push {cls:=.type "dict",data:=.dict #[]}) scope.names}):
  αl (newFunctionEnv scope globals closure [] qual func code (a0 outer) builtins) Q E s:=by
 simp only[newFunctionEnv,Option.isSome_some,if_true];refine vy<|wpAny_alloc ?_;refine vy (wpAny_layCells _ (λn k c=>by cases H:k == WK <;> simp) _ _ _ _ ?_);rw[show({s with heap:=s.heap.push {cls:=.type "dict",data:=.dict #[]} }:d7).heap.objs.size=((s).heap.objs.size)+1 from zf ..]
 show vy<|v8<|v8 h
abbrev Cx.comp(X:Cx)(sc:Scope)(N:yp 0)(C:d8)(fp:i_ d8)(s₀:d7)(H₀:Hp):Cx:=
 { X with N:=N,s₀:=s₀,H₀:=H₀,env:=compEnvC sc (Um (C+1) sc.names<|iC X.env.cells sc.names []) C X.env,outer:=X.stack,ex:=fp,fn:=λx=>(match A7 0 with|some .cell=>true|_=>false),pn:=[],xe:=λ_ _=>False}
abbrev Cx.compE(X:Cx)(sc:Scope)(N:yp 0)(C:d8)(fp:i_ d8)(s₀:d7)(H₀:Hp)(xk:d8->i_ d8->d7->Hp->(d6->d7->Prop)):Cx:={ X.comp sc N C fp s₀ H₀ with xe:=xk C fp s₀ H₀}
abbrev De:St->Nat->jh V
 |[],_=>a7
 |x::_,0=>x
 |_::r,n+1=>De r n
def uT:∀{σ:St}{i:Nat}{v:V},De σ i=a0 v->σ[i]?=a0 (a0 v)
 |[],_,_,h=>by cases h
 |x::_,0,v,h=>by let H:x=a0 v:=h;simp[H]
 |_::r,n+1,v,h=>by rw[Vs];show uT h
abbrev mF(js:i_ (YJ 0))(σ:St):St:=js.map λo=>match o with
 |none=>a7
 |some j=>De σ j
def KF{σ:St}{v:V}(h:(Z8 0)[i]?=a0 (a0 v)):∃j,js[i]?=a0 (a0 j)/\σ[j]?=a0 (a0 v):=by
 unfold mF at h;rw[xf]at h;cases e:js[i]? with
 |none=>rw[e]at h;cases h
 |some o=>
  rw[e]at h;cases o with
  |none=>cases h
  |some j=>exact⟨j,rfl,uT<|yi h⟩
abbrev PTs(X:Cx)(ifs:i_ g_)(t:TT):Prop:=
 ∀(b9:List (d8×Obj))(s:d7)(σ:St)(H:Hp)(Q:Bool->Hp->Prop),q_ s->t σ H Q->wpAny (b8 X) X.A (Eh ifs X.env) (δd Q) X.xe s
abbrev Qc:TT:=λ_ H Q=>Q true H
def KG:PTs X [] Qc:=λ_ _ _ H _ I h=>wpAny_tests_nil ⟨H,I,h⟩
def KH{c:g_}{t:TT}(h:PT X c t):PTs X [c] t:=λp s z H Q I q=>wpAny_tests_one<|h p s z H Q I q
abbrev MG(js:i_ (YJ 0))(g:TG)(tt:TT)(te:TE)(σ:St)(acc:d8)(x:V)(H:Hp)(N:Hp->Prop):Prop:=g x (Z8 0) H λσ2 H4=>tt σ2 H4 λb H5=>if b=true then te σ2 H5 λv H6=>∃ys,H6 acc=a0 (.lst ys)/\ys.length<w9/\N (upd H6 acc<|.lst<|ys++[v]) else N H5
abbrev BE(js:i_ (YJ 0))(wi:TI)(g:TG)(tt:TT)(te:TE):TE:=λσ H Q=>wi σ H λJ H1=>∀acc,H1 acc=a7->
 ∃W:Nat->Nat->Hp->Prop,(∃m,W 0 m<|upd H1 acc<|.lst [])/\∀i m H2,W i m H2->
  (β7 H2/\Q (.ref acc) H2)\/(J.go i H2/\∃N:Hp->Prop,(∀H',N H'->∃m',m'<m/\W (i+1) m' H')/\∀x H3,δs H2 x H3->MG js g tt te σ acc x H3 N)
variable{Q0:(d6->d7->Prop)}{te:TE}{tg:g_}{use:jh (d6->Sem Unit)}{xk:d8->i_ d8->d7->Hp->(d6->d7->Prop)}{cq pos':Pos}
section
variable{elt:g_}{wi:TI}{g:TG}{tt:TT}
structure Off(X:Cx)(b9:List (d8×Obj))(H:Hp)(C:d8)(s:d7):Prop where
 ns:∃m,s.heap.Ns C m
 none:H C=none
 loc:C≠X.env.locals
 new:X.s₀.heap.objs.size<=C
 cells:∀x c,X.env.cells.lookup x=some c->c≠C
 b9:∀p∈X.pn++b9,p.1≠C
def Off.go{σ:St}{C:d8}(o:δI H C s)(I:q_ s)(S:U9 C s.heap h'):q_ {s with heap:=h'}:=I.turned (λb O h e=>(S.2 b h).trans e) o.none o.loc (.inr o.new) o.cells o.b9
def Df(hc:X.calm=true)(tf:X.env.scope=os)(ug:X.N=oN)(ok:XX N js=true)(hi:X3 wi)(hg:∀C f a t,PG (βP xk) tg g)(ht:∀C f a t,PTs (βP xk) ifs tt)(he:∀C f a t,PE (βP xk) elt te){σ:St}{Q:VK}(I:q_ s)(h:βj te σ H Q)(n9:∀acc C U R,a8 R U->δI R C U->Q (.ref acc) R->compPost (b8 X) X.A X.xe use Q0 (.ref acc) C (.ok .next) U)(kx:∀C f a t,(∀P M R U,Inv (βP xk) P M R U->a8 R U/\δI R C U)->∀x J,xk C f a t x J->notedBy (b8 X) X.A (βP xk).env (λx da=>compPost (b8 X) X.A X.xe use Q0 .none C (.error x) da) x J)(hs:∀x,W1 x=pure x:=by intro _;rfl):
  wpAny (b8 X) X.A (comprehension (.ListComp elt [⟨tg,iter,ifs,0⟩] sc pos) sc X.env (firstIterPos [⟨tg,iter,ifs,0⟩] pos) (newList []) false (eval iter X.env) use) Q0 X.xe s:=by
 let S:=FN ok;subst tf ug;let jv:∀y∈sc.names,y.2=Uw->∃c,X.env.cells.lookup y.1=a0 c:=λy hy e=>I.ok.has y.1<|S.fr y hy e;let f9:∀x c,(δJ []).lookup x=a0 c->r_ 0=a0 c:=λx c e=>by
  rcases sF _ _ e with z|⟨y,hy,e1,e2,e3⟩
  ·cases z
  ·let⟨d,D⟩:=jv y hy e2;rw[e1]at D;rw[D]at e3;rw[D,e3];rfl
 refine wpAny_comprehension_free (use:=use) rfl hs (xI jv) S.kind S.nm<|thn (hi b9 s σ H _ I h) λv s1 h1=>thn h1 λng O h2=>?_;let⟨it,f,tn,J,H2,e,I2,T,i6,f2,q⟩:=h2;subst e;let⟨W,⟨m0,w0⟩,turn⟩:=q O.heap.objs.size I2.fresh;refine xy<|qZ ?_;let Z:a8 (δK<|.lst []) { O with heap:=O.heap.push {cls:=.type "list",data:=.seq ([]:Xu 0).toArray},toks:=O.toks}:=I2.lnew (its:=[]) (ys:=[]) .nil<|zk _;generalize qj:δK (HO.lst [])=H3 at w0 Z;generalize uy:({ O with heap:=O.heap.push {cls:=.type "list",data:=.seq ([]:Xu 0).toArray},toks:=O.toks}:d7)=s3 at Z;let uv:=uy;let oz:O.heap.push {cls:=.type "list",dict:=a7,data:=.seq ([]:Xu 0).toArray}=s3.heap:=by rw[<-uv]
 (try rw[oz])
 let hC:∀b o,s3.heap.get? b=a0 o->b≠((s3).heap.objs.size):=λb o e=>xj<|wt e;let K:∀b o,s3.heap.get? b=a0 o->(pushCells (s3.heap.push {cls:=.type "dict",data:=.dict #[]}) sc.names).get? b=a0 o:=λb o e=>pushCells_keeps _ _ b o<|v7 _ e;let L:(pushCells (s3.heap.push {cls:=.type "dict",data:=.dict #[]}) sc.names).Ns ((s3).heap.objs.size) (λ_=>a7):=(Heap.Ns.new s3.heap<|.type "dict").keeps<|pushCells_keeps _ _;let j:=cellsFrom_ok sc.names (s3.heap.push {cls:=.type "dict",data:=.dict #[]}) (s3.heap.objs.size+1) [] ⟨λ_ _ hm=>(nomatch hm),UT⟩ (by rw[zf];show wj _);rw[zf]at j;generalize pushCells (s3.heap.push {cls:=.type "dict",data:=.dict #[]}) sc.names=h₁ at K L j⊢;let q:∀{x c},(Um (s3.heap.objs.size+1) sc.names<|iC X.env.cells sc.names []).lookup x=a0 c->((x,c)∈Um (s3.heap.objs.size+1) sc.names []/\h₁.IsCell c a7/\((s3).heap.objs.size)+1<=c)\/(r_ 0=a0 c/\c<((s3).heap.objs.size)):=λ{x c} e=>by
  rw[aZ,qB]at e;cases eo:(Um (s3.heap.objs.size+1) sc.names []).lookup x with
  |some d=>
   rw[eo]at e;cases e
   have:=mem_of_lookup eo;show .inl ⟨this,j.empty x c this⟩
  |none=>rw[eo]at e;let e:=f9 x c e;let⟨v,z⟩:=Z.cell x c e;show .inr ⟨e,z.lt⟩
 let qg:∀{x c},A7 0=a0 .free->(δJ []).lookup x=a0 c->(Um (s3.heap.objs.size+1) sc.names<|iC X.env.cells sc.names []).lookup x=a0 c:=λ{x c} E e=>by
  rw[aZ,qB];cases eo:(Um (s3.heap.objs.size+1) sc.names []).lookup x with
  |some d=>have:=S.own _ (kO<|mem_of_lookup eo) rfl;rw[E]at this;cases this
  |none=>exact e
 let ag:tn 0 s3.heap:=T.keep 0 _ _ i6 λb B o e=>by rw[<-oz];show W4 e
 let l9:∀b∈f,∃o,s3.heap.get? b=a0 o/\∀v,o.data≠.cell v:=T.obj 0 _ ag;let f3:∀b∈f,Bi X b9 H3 b:=λb B=>by let⟨o,l,_⟩:=T.obj 0 _ i6 b B;refine⟨?_,(f2 b B).2⟩;rw[<-qj,aF<|xj<|wt l];show(f2 b B).1
 -- the block's context
 let j8:(xp ((s3).heap.objs.size) f s3 H3 xk).Ok:=by
  refine⟨I.ok.mod,S.kind,I.ok.glob,I.ok.blt,wj _,λx y c e1 e2=>?_,λx hx=>?_,λx c z e=>?_,I.ok.hd,I.ok.frames,.inl rfl,λb B=>?_,Z.bs,
   yd I.ok.bsz Z.sz,λb o e B=>?_,λb B E=>?_,Z.stack,Z.stkFree⟩
  ·rcases q e1 with⟨m1,_,g1⟩|⟨z1,g1⟩ <;> rcases q e2 with⟨m2,_,g2⟩|⟨z2,g2⟩
   ·show name_of_addr j.apart m1 m2
   ·show absurd (xa g2<|VX g1) (z6 _)
   ·show absurd (xa g1<|VX g2) (z6 _)
   ·show I.ok.inj x y c z1 z2
  ·let fr:A7 0=a0 .free->∃c,(Um (s3.heap.objs.size+1) sc.names<|iC X.env.cells sc.names []).lookup x=a0 c:=λE=>
    let ⟨c,hc⟩:=uS (cells:=X.env.cells) (x:=x) sc.names []<|.inr ⟨_,cT E,rfl,rfl⟩
    ⟨c,qg E hc⟩
   let fin:∀{k},(relabel sc X.env).names.lookup x=a0 k->(k=.cell\/k=.free)->∃c,(Um (s3.heap.objs.size+1) sc.names<|iC X.env.cells sc.names []).lookup x=a0 c:=λ{k} e hk=>by
    rcases mK (sc:=sc) e with z|⟨_,z⟩
    ·rcases hk with rfl|rfl
     ·let⟨c,hc⟩:=fM (n:=((s3).heap.objs.size)+1)<|cT z;show⟨c,by rw[aZ,qB,hc];rfl⟩
     ·show fr z
    ·show fr z
   rcases hx with hx|hx
   ·show fin hx (.inl rfl)
   ·show fin hx (.inr rfl)
  ·let z:A7 0=a0 .cell:=by
    let z:(match A7 0 with|some .cell=>true|_=>false)=true:=z
    split at z
    ·assumption
    ·cases z
   let e:(Um (s3.heap.objs.size+1) sc.names<|iC X.env.cells sc.names []).lookup x=a0 c:=e;let⟨d,D⟩:=fM (n:=((s3).heap.objs.size)+1)<|cT z;rw[aZ,qB,D]at e;cases e
   show VX (j.empty x c<|mem_of_lookup D).2
  ·let⟨o,l,_⟩:=l9 b B;refine⟨hC b o l,λx c e=>?_⟩;rcases q e with⟨_,_,g1⟩|⟨z1,_⟩
   ·show zr (xa (wt l)<|VX g1)
   ·show(f3 b B).2.2.2.2.1 x c z1
  ·rcases(f3 b B).2.2.2.1 with z|z
   ·show I.ok.noex b o e z
   ·show absurd (xa (wt e)<|yd I.ok.bsz z) (z6 _)
  ·rcases wu.mp (Z.stkSub b E) with z|z
   ·show(f3 b B).2.1 z
   ·show(f3 b B).2.2.1 z
 -- what the block takes from around it
 let jj:∀(i:Nat)(x:Str)(v:V),N[i]?=a0 x->(Z8 0)[i]?=a0 (a0 v)->∃u c o,WV u/\((compEnvC sc (Um (s3.heap.objs.size+1) sc.names<|iC X.env.cells sc.names []) ((s3).heap.objs.size) X.env).kindOf x=a0 .cell\/(compEnvC sc (Um (s3.heap.objs.size+1) sc.names<|iC X.env.cells sc.names []) ((s3).heap.objs.size) X.env).kindOf x=a0 .free)/\
   (Um (s3.heap.objs.size+1) sc.names<|iC X.env.cells sc.names []).lookup x=a0 c/\s3.heap.get? c=a0 o/\o.data=.cell (a0 u)/\H3 c=a7/\c∉f:=by
  intro i x v hN hv;let⟨j,hj,hσ⟩:=KF hv;let⟨x',jz,l,E⟩:=S.cap i j hj;rw[hN]at jz;cases jz;let⟨m,hn,hl⟩:=Z.loc;let kn:αn x:=by
   rcases S.fr _ (cT E) rfl with z|z
   ·show .inr (.inl z)
   ·show .inr (.inr z)
  let⟨u,r,l⟩:=hl j x v l hσ kn;let⟨c,jk⟩:=uS (cells:=X.env.cells) (x:=x) sc.names []<|.inr ⟨_,cT E,rfl,rfl⟩;let nc:=f9 x c jk;let jd:s3.heap.IsCell c (a0 u):=by
   rcases l with⟨k,_⟩|⟨_,c',e,z⟩
   ·exfalso;rcases S.fr _ (cT E) rfl with z|z
    ·let k':vv 0=a0 .local:=k;rw[z]at k';cases k'
    ·let k':vv 0=a0 .local:=k;rw[z]at k';cases k'
   ·rw[nc]at e;cases e;show z
  let⟨o,u2,D⟩:=jd;refine⟨u,c,o,r,?_,qg E jk,u2,D,Z.freeC x c nc,λB=>(f3 c B).2.2.2.2.1 x c nc rfl⟩;show(qA (env:=X.env) E).symm
 -- at any state of the block,its names as at its start
 let ji:∀{P:List (d8×Obj)}{G:St}{H8:Hp}{s8:d7},Inv (xp ((s3).heap.objs.size) f s3 H3 xk) P G H8 s8->Inv (xp ((s3).heap.objs.size) f s3 H3 xk) [] (Z8 0) H8 s8:=λ{P G H8 s8} F=>by
  refine⟨F.ok,F.os,F.bare,F.base,?_,F.cell,F.free,F.freeC,λp hp=>by simp[Cx.compE,Cx.comp]at hp,F.hok,?_⟩
  ·let⟨m,hn,_⟩:=F.loc;refine⟨m,hn,λi x v hN hv _=>?_⟩;let⟨u,c,o,r,k,hl,l,D,si,r8⟩:=jj i x v hN hv;refine⟨u,r,.inr ⟨k,c,hl,?_⟩⟩;let⟨sl,e⟩:=F.base.any l si r8;show⟨_,e,D⟩
  ·change(Z8 0).length=N.length
   unfold mF;rw[wd,S.len]
 let I4:Inv (xp ((s3).heap.objs.size) f s3 H3 xk) [] (Z8 0) H3 {s3 with heap:=h₁}:=by
  refine⟨j8,rfl,Z.bare,Un.kept K,⟨_,L,λi x v hN hv _=>?_⟩,λx c e=>?_,Z.fresh,λx c e=>?_,λp hp=>by simp[Cx.compE,Cx.comp]at hp,Z.hok.kept K,?_⟩
  ·let⟨u,c,o,r,k,hl,l,D,_,_⟩:=jj i x v hN hv;show⟨u,r,.inr ⟨k,c,hl,o,K c o l,D⟩⟩
  ·rcases q e with⟨_,g1,_⟩|⟨z1,_⟩
   ·show⟨_,g1⟩
   ·let⟨v,o,l,D⟩:=Z.cell x c z1;show⟨v,o,K c o l,D⟩
  ·rcases q e with⟨_,_,g1⟩|⟨z1,_⟩
   ·show Z.hok.fresh ⋯
   ·show Z.freeC x c z1
  ·change(Z8 0).length=N.length
   unfold mF;rw[wd,S.len]
 let pq:tn 0 h₁:=T.keep 0 _ _ ag λb B o e=>K b o e;let L:∀{Y:Hp},(∀b∈f,Y b=a7)->∀b∈f,Bi (xp ((s3).heap.objs.size) f s3 H3 xk) [] Y b:=λ{Y} hn b B=>⟨hn b B,(j8.exf b B).1,j8.exfs b B,.inl B,(j8.exf b B).2,λp hp=>by simp[Cx.compE,Cx.comp]at hp⟩;let out:∀P M R U,Inv (xp ((s3).heap.objs.size) f s3 H3 xk) P M R U->a8 R U/\δI R ((s3).heap.objs.size) U:=λP M R U W=>by
  refine⟨Z.call' (ch:=f) W.os W.base W.hok W.bare λb B=>⟨(f3 b B).2.2.2.1,(f3 b B).2.1,(f3 b B).2.2.2.2.1,(f3 b B).2.2.2.2.2⟩,let ⟨m,hn,_⟩:=W.loc;⟨m,hn⟩,W.free,zr Z.lt,Z.sz,λx c e=>?_,λp hp=>?_⟩
  ·let⟨v,z⟩:=Z.cell x c e;show xj z.lt
  ·show xj (wt (Z.pin p hp).1)
 let fin:∀(U:d7)(R:Hp),Inv (xp ((s3).heap.objs.size) f s3 H3 xk) [] (Z8 0) R U->Q (.ref O.heap.objs.size) R->compPost (b8 X) X.A X.xe use Q0 (.ref O.heap.objs.size) ((s3).heap.objs.size) (.ok .next) U:=λU R W q6=>n9 _ _ _ _ (out _ _ _ _ W).1 (out _ _ _ _ W).2 q6;let loop:codeAny (b8 X) X.A (.compLoop (.ListComp elt [⟨tg,iter,ifs,0⟩] sc pos) 0 (.ref it) (.ref O.heap.objs.size)<|compEnvC sc (Um (s3.heap.objs.size+1) sc.names<|iC X.env.cells sc.names []) ((s3).heap.objs.size) X.env)
   (compPost (b8 X) X.A X.xe use Q0 (.ref O.heap.objs.size)<|(s3).heap.objs.size) {s3 with heap:=h₁}:=by
  refine xH (E':=(xp ((s3).heap.objs.size) f s3 H3 xk).xe) (λx J q=>by cases use <;> exact kx _ _ _ _ out x J q) (λn J=>∃i Y,Inv (xp ((s3).heap.objs.size) f s3 H3 xk) [] (Z8 0) Y J/\tn i J.heap/\(∀b∈f,Y b=a7)/\W i n Y) ?_ m0 ⟨0,H3,I4,pq,λb B=>(f3 b B).1,w0⟩;rintro n s5 ⟨i,H5,I5,st5,fr5,w5⟩;rcases turn i n H5 w5 with⟨stop,qn⟩|⟨go,Nn,hN,step⟩
  ·refine thn (T.done (xp ((s3).heap.objs.size) f s3 H3 xk) rfl rfl rfl hc i [] s5 (Z8 0) H5 (xp ((s3).heap.objs.size) f s3 H3 xk).xe I5 (L fr5) st5 stop) λr U w0=>?_;let⟨hr,W⟩:=w0;subst hr;show fin U H5 W qn
  ·refine thn (T.item (xp ((s3).heap.objs.size) f s3 H3 xk) rfl rfl rfl hc i [] s5 (Z8 0) H5 (xp ((s3).heap.objs.size) f s3 H3 xk).xe I5 (L fr5) st5 go) λr U w0=>?_;let⟨u,hr,h6⟩:=w0;subst hr;refine thn h6 λ_ s7 w0=>?_;let⟨x,H7,I7,r7,y7,oe,rl⟩:=w0;let r9:=I7.pinned (L rl)<|T.obj _ _ oe;refine thn (hg _ _ _ _ _ s7 _ H7 x u _ r9 r7<|step x H7 y7) λ_ s8 w0=>?_;let⟨G,H8,F,q8⟩:=w0;refine thn (ht _ _ _ _ _ s8 G H8 _ F q8) λb s9 w0=>?_;let⟨H9,I9,q9⟩:=w0;let d:∀{M:St}{Y:Hp}{J:d7},Inv (xp ((s3).heap.objs.size) f s3 H3 xk) ([]++uB f s7.heap) M Y J->Nn Y->∃m,m<n/\∃i Y,Inv (xp ((s3).heap.objs.size) f s3 H3 xk) [] (Z8 0) Y J/\tn i J.heap/\(∀b∈f,Y b=a7)/\W i m Y:=λ{M Y J} I' n'=>by let⟨m',hm,w'⟩:=hN Y n';refine⟨m',hm,i+1,Y,ji I',T.keep _ _ _ oe λb B o e=>(I'.pin (b,o)<|v9 _<|v9 _<|kL B e).1,λb B=>?_,w'⟩;let⟨o,e,d⟩:=T.obj _ _ oe b B;show(I'.pin (b,o)<|v9 _<|v9 _<|kL B e).2.1
   cases b with
   |false=>exact d I9 q9
   |true=>refine thn (he _ _ _ _ _ s9 G H9 _ I9 q9) λu' uc w0=>?_;let⟨v,rb,u1,rv,ys,ei,hz,qp⟩:=w0;refine thn (xX (X:=xp ((s3).heap.objs.size) f s3 H3 xk) _ uc G rb (.ref O.heap.objs.size) [v] (.ref O.heap.objs.size) [u'] (λ_ Y=>Nn Y) u1 rfl (.cons rv .nil) ⟨_,ys,v,rfl,rfl,ei,hz,qp⟩) λ_ s11 w0=>?_;let⟨_,H11,ua,_,vh⟩:=w0;show d ua vh
 show codeAny_compStart_list loop<|T.self X.A 0 _ _ _ pq loop
def yF(c:X.calm=true)(E:X.env.scope=os)(e:X.N=oN)(o:XX N js=true)(hi:X3 wi)(G:∀C f S y,PG (Yp y) tg g)(T:∀C f S y,PTs (Yp y) ifs tt)(t:∀C f S y,PE (Yp y) elt te){σ:St}{Q:VK}(I:q_ s)(h:βj te σ H Q)(i:∀a C u v,a8 v u->δI v C u->Q (.ref a) v->compPost (b8 X) X.A X.xe use Q0 (.ref a) C (.ok .next) u)(r:∀x,W1 x=pure x:=by intro _;rfl):
  wpAny (b8 X) X.A (comprehension (.ListComp elt [⟨tg,iter,ifs,0⟩] sc pos) sc X.env (firstIterPos [⟨tg,iter,ifs,0⟩] pos) (newList []) false (eval iter X.env) use) Q0 X.xe s:=
 Df c E e o hi G T t I h i (λ_ _ _ _ _ _ _ z=>z.elim) r
def KI(c:X.calm=true)(E:X.env.scope=os)(e:X.N=oN)(k:XX N js=true)(hi:X3 wi)
  (G:∀C f S z,PG (Yp z) tg g) (T:∀C f S z,PTs (Yp z) ifs tt) (u:∀C f S z,PE (Yp z) elt te)
  (t:∀x,W1 x=pure x:=by intro _;rfl):N_ (.ListComp elt [⟨tg,iter,ifs,0⟩] sc pos) (βj te):=by
 refine λp s m H Q I h=>yF c E e k hi G T u I h (λa C n w v o q=>?_) t;show⟨o.ns.choose,o.ns.choose_spec,λr y=>⟨.ref a,w,o.go v y,rfl,q⟩⟩
def Dg(Z:X.N.Nodup)(n:X.N[i]?=a0 x)(l:vv 0=a0 .local)(Y:X.calm=true)(t:X.env.scope=os)(E:X.N=oN)(K:XX N js=true)(hi:X3 wi)(G:∀C f S z,PG (Yp z) tg g)(T:∀C f S z,PTs (Yp z) ifs tt)(V:∀C f S z,PE (Yp z) elt te)(W:WG (.ListComp elt [⟨tg,iter,ifs,0⟩] sc pos) (a0<|.Name x pos') cq.line X.env=pure true:=by rfl)(U:∀x,W1 x=pure x:=by intro _;rfl):PS X (.Assign [.Name x pos'] (.ListComp elt [⟨tg,iter,ifs,0⟩] sc pos) cq) (Nj (βj te)<|GJ i):=by
 intro p s J H D I h
 rw[exec_Assign_Name_used _ _ _ _ W]
 refine vy<|wpAny_standAt<|vy ?_
 show k_ X.A (do let _ <-comprehension _ sc X.env _ _ false _ (a0<|assign _ X.env)) _ _ s
 refine vy<|thn (yF (use:=a0<|assign _ X.env) Y t E K hi G T V I h (λc C L k d o q=>?_) U) λ_ M Q=>v8<|v8 Q
 show k_ X.A (assign _ X.env _) _ _ _
 refine wpAny_assign_Name<|xO d Z n (.inl l) (v:=.ref c) rfl (λR b w0=>?_)<|.inr l
 let⟨a,w,u⟩:=w0
 have y:C≠a:=by
  rcases u with rfl|u
  ·exact o.loc
  ·exact λe=>o.cells x a u e.symm
 let⟨m,j⟩:=o.ns
 have O:Off X p k C R:=⟨⟨m,j.sameBut w y⟩,o.none,o.loc,o.new,o.cells,o.b9⟩
 exact⟨m,j.sameBut w y,λP r=>⟨_,k,O.go b r,q⟩⟩
end
abbrev Qd:V->WS 0->WS 0->Hp->VK->Prop:=λx lo hi H Q=>∃z,x=.str z/\z.length<=w9/\Q (.str<|UF z lo hi) H
variable{v:d6}
def part_of{o:WS 0}(h:IsPart v o):∃p,v=partValue p/\p.map (·.1)=o:=by
 cases h with
 |none=>exact⟨a7,rfl,rfl⟩
 |int i t=>exact⟨a0 (i,t),rfl,rfl⟩
def NX:γ6 Qd:=by
 rintro p s m H x v V n y i w Q I r S P U ⟨z,rfl,Z,q⟩;let⟨t,rfl⟩:=r;let⟨l,rfl,rfl⟩:=part_of P;let⟨u,rfl,rfl⟩:=part_of U;let⟨o,O,C,d⟩:=S;refine⟨"str",_,PySem.F.slot_str_getitem.lookup,Yy z t,?_⟩;refine wpAny_getItem_str_slice (st:=a7) ⟨o,O,C,d⟩ rfl ?_;let e:sliceMade z t l u a7=if((1:Int) == 1&&(Wi _ _ 1 _).length == z.length)=true then Made.val _ else Made.str ⟨((Wi _ _ 1 _).filterMap _).toArray⟩:=rfl;let L:=Txt.slice_le z (l.map (·.1)) (u.map (·.1));unfold UF at q L;rw[e];by_cases c:((1:Int) == 1&&(Wi (l.map (·.1)) (u.map (·.1)) 1 z.length).length == z.length)=true
 ·rw[Xy 0]at q⊢;show⟨.str z,H,I,⟨t,rfl⟩,q⟩
 ·rw[YC 0]at q L⊢;show⟨yd L Z,.str _,H,Xx 0,⟨_,rfl⟩,q⟩
def uU:∀{ss:yp 0}{us:Xu 0},aI (ss.map V.str) us->StrsAre us ss
 |[],_,r=>by cases r;show .nil
 |x::ss,_,r=>by
  cases r with
  |cons h t=>let⟨tk,rfl⟩:=h;show .cons x tk<|uU t
def yG:∀{us:Xu 0}{ss:yp 0},StrsAre us ss->aI (ss.map V.str) us
 |_,_,.nil=>.nil
 |_,_,.cons x t h=>.cons ⟨t,rfl⟩ (yG h)
def rA:δu (.builtin "sorted") (λxs H Q=>∃p ss,xs=[.ref p]/\YQ p (ss.map V.str)/\ss.length<64/\
  ∀l fh,H l=a7->fh.Perm ss->sortedS fh=true->Q (.ref l) (t_ l (.lst (fh.map V.str)))):=by
 intro b9 s σ H xs us Q I r h;let⟨p,ss,rfl,hq,fi,q⟩:=h;let⟨u,rfl,ru⟩:=vals1 r;cases ru
 let⟨its,rv,pl,hz⟩:=I.list hq;let hlen:=rv.length;rw[wd]at hlen;refine sorted_strs pl.isList (uU rv) ⋯ λout fh a1 a2 a3=>?_;let⟨e,he⟩:=sortedAll_at s.heap its out;refine⟨.ref<|s.heap.objs.size+1,_,I.laid (t':=s.toks) (o:=.lst<|fh.map V.str) (λb ob h=>sortedAll_old h) (Nat.le_succ _) ?_,rfl,q _ fh (I.hok.fresh<|Nat.le_succ _) a2 a3⟩;refine⟨?_,out.toList,e,yG a1,by rw[he]⟩;rw[wd,a2.length_eq];show zi (Nat.lt_trans fi<|by decide)
variable{es:i_ g_}
def gT{k:Nat}{t:TGs}(K)(H:X.K=K)(c:X.calm=true)(h:β6 t)(N:(ZN 0).length=n:=by rfl)(s:(ZN 0).findIdx? (·.1)=a7:=by rfl):PG X (.Tuple es k pos) (PK K n t):=by subst H;show Ni c h N s
variable{e:g_}{f:d6->d6->Sem d6}{r':R2}
section
variable{a b:g_}{t t' tb:TE}
def PE.imp(h:N_ e t)(i:∀z H Q,t' z H Q->t z H Q):N_ e t':=λp s z H Q I q=>X4 Q I<|i z H Q q
def PT.imp{t t':TT}(h:PT X e t)(i:∀z H Q,t' z H Q->t z H Q):PT X e t':=λp s z H Q I q=>X4 Q I<|i z H Q q
def OpR.imp{r:R2}(h:A6 f r)(i:∀x y H Q,r' x y H Q->δt Q):A6 f r':=λp s z H x y v u Q I R Y q=>X4 x y v u Q I R Y<|i x y H Q q
def bX.imp{f:d6}{r r':i_ V->Hp->VK->Prop}(h:δu f r)(i:∀x H Q,r' x H Q->r x H Q):δu f r':=λp s z H x u Q I R q=>X4 x u Q I R<|i x H Q q
abbrev cV(i:Nat):TE:=λσ H Q=>match De σ i with
 |some v=>Q v H
 |none=>False
def cv(i)(z:X.N[i]?=a0 x:=by rfl)(V:αn x:=by first|exact Or.inl rfl|exact Or.inr (Or.inl rfl)|exact Or.inr (Or.inr rfl))(d:(x == ("__debug__" : Str))=false:=by decide)(c:(x == ("__classdict__" : Str))=false:=by decide):N_ (.Name x pos) (cV i):=by
 refine(GG z V d c).imp λy H Q h=>?_;unfold cV at h;cases e:De y i with
 |none=>rw[e]at h;show h.elim
 |some v=>rw[e]at h;show⟨v,uT e,h⟩
abbrev Qe(K:wc):R2:=λx y H Q=>match x,y with
 |.int i,.int j=>Q (.int<|i+j) H
 |.str i,.str j=>i.length+j.length<=w9/\Q (.str<|i++j) H
 |.ref _,.ref _=>Q4 x y H Q\/Mx K x y H Q
 |_,_=>False
def KJ(K)(z:X.K=K):A6 (UO .Add) (Qe K):=by
 subst z;refine(Nt.or<|CT.or<|NL.or Kr).imp λx y H Q h=>?_;cases x <;> cases y <;> first
  |exact .inl ⟨_,_,rfl,rfl,h⟩
  |exact .inr (.inl ⟨_,_,rfl,rfl,h.1,h.2⟩)
  |exact .inr (.inr h)
  |exact h.elim
abbrev yH(C:Int->Int->Prop)(f:Int->Int->Int):R2:=λx y H Q=>match x,y with
 |.int i,.int j=>C i j/\Q (.int<|f i j) H
 |_,_=>False
abbrev Hl(f:Int->Int->Int):R2:=λx y H Q=>match x,y with
 |.int i,.int j=>Q (.int<|f i j) H
 |_,_=>False
def tQ{C:Int->Int->Prop}{g:Int->Int->Int}(h:A6 f (rI C λi j=>.int<|g i j)):A6 f (yH C g):=h.imp λx y H Q q=>by cases x <;> cases y <;> first|exact⟨_,_,rfl,rfl,q.1,q.2⟩|exact q.elim
def Hm{g:Int->Int->Int}(h:A6 f (rI0 λi j=>.int<|g i j)):A6 f (Hl g):=h.imp λx y H Q q=>by cases x <;> cases y <;> first|exact⟨_,_,rfl,rfl,q⟩|exact q.elim
def KL:A6 (UO .Sub) (Hl λi j=>i-j):=Hm Nu
def KN:A6 (UO .Mult) (yH CQ λi j=>i*j):=tQ Nv
def KO:A6 (UO .FloorDiv) (yH GL λi j=>i/j):=tQ Ke
def KQ:A6 (UO .Mod) (yH (λ_ j=>0<j) λi j=>i%j):=tQ Nx
def KR:A6 (UO .Pow) (yH Fp λi j=>i ^ j.toNat):=tQ Ny
abbrev BF(f:Int->Int->Bool)(g:v_ 0->v_ 0->Bool):R2:=λx y H Q=>match x,y with
 |.int i,.int j=>Q (.bl<|f i j) H
 |.str i,.str j=>Q (.bl<|g i.cps.toList j.cps.toList) H
 |_,_=>False
def Ad{p:Int->Int->Bool}{g:v_ 0->v_ 0->Bool}(h1:A6 f (rI0 λi j=>.bl<|p i j))(h2:A6 f (λx y H Q=>∃i j,x=.str i/\y=.str j/\Q (.bl<|g i.cps.toList j.cps.toList) H)):A6 f (BF p g):=(h1.or h2).imp λx y H Q q=>by cases x <;> cases y <;> first|exact .inl ⟨_,_,rfl,rfl,q⟩|exact .inr ⟨_,_,rfl,rfl,q⟩|exact q.elim
def NY:A6 (zt .Lt) (BF (λi j=>decide (i<j)) λi j=>decide (i<j)):=Ad PN Fq
def NZ:A6 (zt .Gt) (BF (λi j=>decide (j<i)) λi j=>decide (j<i)):=Ad PQ λp s z H x y v u Q I r R h=>by let⟨i,j,rfl,rfl,q⟩:=h;let⟨t,rfl⟩:=r;let⟨T,rfl⟩:=R;show PySem.P.gt_str<|uC I q rfl
def O0:A6 (zt .LtE) (BF (λi j=>decide (i<=j)) λi j=>!decide (j<i)):=Ad PP λp s z H x y v u Q I r R h=>by let⟨i,j,rfl,rfl,q⟩:=h;let⟨t,rfl⟩:=r;let⟨T,rfl⟩:=R;show PySem.P.le_str<|uC I q rfl
end
variable{ta:TE}
section
variable{a b:g_}{t t' tb:TE}
def Qf{x:V}{Q:Bool->Prop}(h:match x with|.bl c=>Q c|_=>False):∃c,x=.bl c/\Q c:=by cases x <;> first|exact⟨_,rfl,h⟩|exact h.elim
abbrev SN(ta tb:TE):TE:=λσ H Q=>ta σ H λx H1=>match x with
 |.bl c=>if c=true then tb σ H1 Q else Q (.bl false) H1
 |_=>False
def KS{rest:i_ g_}(A:N_ a ta)(hb:N_ (.BoolOp .And (b::rest) pos) tb):N_ (.BoolOp .And (a::b::rest) pos) (SN ta tb):=by
 refine λp s w H Q I h=>BoolOp_and<|thn (A p s w H _ I h) λv S w0=>?_;let⟨x,z,y,r,q⟩:=w0;let⟨c,rfl,q⟩:=Qf q;cases r
 refine Wp ?_;cases c with
 |true=>exact hb p S w z Q y q
 |false=>exact⟨.bl false,z,y,rfl,q⟩
def KU(U:X.A.units+1<cLine):γ7 (λx y H Q=>∃p v,x=.ref p/\tB H p y (a0 v)/\Q v H):=by
 intro V l i s m H x y v u Q I n Y h o;let⟨p,w,rfl,g,q⟩:=h;cases n
 refine vy <|vy<|VY (Bm I g) PySem.F.slot_dict_getitem.lookup ?_;let f:wpAny (b8 X) X.A (subscripted l false (.ref p) u) (λr S=>wpAny (b8 X) X.A (letTemporaryGo V (.ref p) r >>= λ_=>pure r) (EP X i m Q) X.xe S) X.xe s:=by rw[o];show wpAny_operating<|FD U I g Y λW k z R=>vy<|wpAny_letTemporaryGo<|v8 ⟨w,H,z,R,q⟩
 first
  |exact v8 (vy f)
  |exact vy (v8 _)
  |exact vy f
abbrev Qi(K:wc):R2:=λx y H Q=>match x with
 |.str z=>(match y with
  |.int i=>z.length<=w9/\∃c,αg i=a0 c/\Q (.str ⟨#[c]⟩) H
  |_=>False)
 |.ref p=>(∃xs i v,y=.int i/\(W9 p xs\/WW p xs)/\YT i=a0 v/\Q v H)\/∃v,tB H p y (a0 v)/\Q v H
 |_=>False
def IxR.imp{r:R2}(h:γ7 r)(i:∀x y H Q,r' x y H Q->δt Q):γ7 r':=λa b p s z H x y v u Q I R Y q S=>h a b p s z H x y v u Q I R Y (i x y H Q q) S
def ixC(U:X.A.units+1<cLine)(K)(n:X.K=K):γ7 (Qi K):=by
 subst n;refine(Ks.or<|NI.or<|NJ.or<|KU U).imp λx y H Q h=>?_;cases x with
 |str z=>
  cases y with
  |int i=>let⟨u,c,r,o⟩:=h;show .inr<|.inr<|.inl ⟨z,i,c,rfl,rfl,u,r,o⟩
  |_=>exact h.elim
 |ref p=>
  rcases h with⟨S,i,v,rfl,s|s,w,q⟩|⟨v,g,q⟩
  ·show .inl ⟨p,S,i,v,rfl,rfl,s,w,q⟩
  ·show .inr (.inl ⟨p,S,i,v,rfl,rfl,s,w,q⟩)
  ·show .inr (.inr<|.inr ⟨p,v,rfl,g,q⟩)
 |_=>exact h.elim
abbrev MJ(K:wc):i_ V->Hp->VK->Prop:=λxs H Q=>match xs with
 |[.str y]=>y.length<=w9/\Q (.int y.length) H
 |[.ref p]=>(∃xs,(W9 p xs\/WW p xs)/\Q (.int xs.length) H)\/∃kvs,H p=a0 (.dK kvs)/\Q (.int kvs.length) H
 |_=>False
def FO(K:wc)(hK:X.K=K):δu (.builtin "len") (MJ K):=by
 subst hK;intro b9 s σ H xs us Q I r h;unfold MJ at h;split at h
 ·show GP b9 s σ H _ us Q I r ⟨_,_,rfl,⟨h.1,rfl⟩,h.2⟩
 ·rcases h with⟨ys,hs,q⟩|⟨kvs,hs,q⟩
  ·show zX b9 s σ H _ us Q I r ⟨_,ys,rfl,hs,q⟩
  ·show FG b9 s σ H _ us Q I r ⟨_,kvs,rfl,hs,q⟩
 ·show h.elim
def Dh(K)(h:X.K=K):δu (.type "list") (λx H Q=>∃p y,x=[.ref p]/\(W9 p y\/WW p y)/\∀l,H l=a7->Q (.ref l) (t_ l<|.lst y)):=by subst h;show zY
def BG(K)(h:X.K=K):δu (.type "tuple") (λx H Q=>∃p y,x=[.ref p]/\((W9 p y/\∀l,H l=a7->Q (.ref l) (t_ l<|.tup y))\/(WW p y/\Q (.ref p) H))):=by subst h;show wX
abbrev Qj(ta:TA):TI:=λσ H R=>ta σ H λvs H1=>match vs with
 |[.int j]=>(-(2 ^ 62)<=j/\j<2 ^ 62)/\R (Itr 0 j.toNat) H1
 |_=>False
abbrev Qk(ta:TA):TI:=λσ H R=>ta σ H λvs H1=>match vs with
 |[.int i,.int j]=>(-(2 ^ 62)<=i/\i<2 ^ 62/\-(2 ^ 62)<=j/\j<2 ^ 62)/\R (Itr i (j-i).toNat) H1
 |_=>False
def KW{vs:i_ V}{Q:Int->Prop}(h:match vs with|[.int j]=>Q j|_=>False):∃j,vs=[.int j]/\Q j:=by
 split at h
 ·show⟨_,rfl,h⟩
 ·show h.elim
def pr1{x:g_}{ta:TA}{p:Pos}(hg:Yu "range")(hm:X.mg "range" = a7)(ha:PA X [x] ta)(hs:xq [x] X.env=[(false,γr 0)]:=by rfl):PI X tg (.Call (.Name "range" p) [x] [] pos) (Qj ta):=by intro b9 s σ H R I h;refine Call_<|jF I hg hm boot_range<|UA (thn (ha pos b9 s σ H _ I h) λus s1 w0=>?_) hs rfl;let⟨vs,H1,I1,r1,q1⟩:=w0;let⟨j,e,⟨h1,h2⟩,q⟩:=KW (Q:=λj=>(-(2 ^ 62)<=j/\j<2 ^ 62)/\R (Itr 0 j.toNat) H1) q1;subst e;let⟨u,rfl,t,rfl⟩:=vals1 r1;show call_range_1<|Bj I1 ⋯ ⋯ h1 h2 (cA q)
def Hn{vs:i_ V}{Q:Int->Int->Prop}(h:match vs with|[.int i,.int j]=>Q i j|_=>False):∃i j,vs=[.int i,.int j]/\Q i j:=by
 split at h
 ·show⟨_,_,rfl,h⟩
 ·show h.elim
def pr2{x y:g_}{ta:TA}{p:Pos}(hg:Yu "range")(hm:X.mg "range" = a7)(ha:PA X [x,y] ta)(hs:xq [x,y] X.env=[(false,γr 0),(false,α3 0)]:=by rfl)(j6:xq [y] X.env=[(false,α3 0)]:=by rfl):
  PI X tg (.Call (.Name "range" p) [x,y] [] pos) (Qk ta):=by
 intro b9 s σ H R I h;refine Call_ (jF I hg hm boot_range<|UA (thn (ha pos b9 s σ H _ I h) λus s1 hz=>?_) (by rw[hs,j6]) (by rw[j6];rfl));let⟨vs,H1,I1,r1,q1⟩:=hz;let⟨i,j,e,⟨h1,h2,h3,h4⟩,q⟩:=Hn (Q:=λi j=>(-(2 ^ 62)<=i/\i<2 ^ 62/\-(2 ^ 62)<=j/\j<2 ^ 62)/\R (Itr i (j-i).toNat) H1) q1;subst e;let⟨u,w',rfl,⟨t,rfl⟩,⟨t',rfl⟩⟩:=vals2 r1;show call_range_2<|Bj I1 h1 h2 h3 h4 q
abbrev Ql(t:TE):TO:=λσ H Q=>t σ H λx H1=>match x with
 |.int i=>Q (a0 i) H1
 |_=>False
def Ho{x:g_}(h:N_ x te):PO X (a0 x) (Ql te):=by
 refine λp s v H Q I w=>thn (h p s v H _ I w) λu S w0=>?_;let⟨x,z,y,r,q⟩:=w0;cases x with
 |int i=>let⟨t,rfl⟩:=r;show⟨a0 i,z,y,.int i t,q⟩
 |_=>exact q.elim
end
structure KpF(K:wc)(f:d8):Prop where
 kp:U2 K (.ref f)=true
structure Def(K:wc)(mg:(Str->Option d6))(x:Str)(st:h_)(f:d8)(fd:UH)(ps:i_ Str):Prop where
 fn:KpF K f
 mg:mg x=a0 (.ref f)
 bd:Binds K fd ps []
def Qm{st:h_}{f:d8}{k:Nat}{t:TA}{p:Pos}(D:βF f fd ps)(G:td CX0 k f fd ps sp)(r:dX k X.A)(a:PA X (e::es) t)(g:Yu x:=by rfl)(h:(x == ("__debug__" : Str))=false:=by decide)(H:xq (e::es) X.env=(false,xl 0)::Mm 0:=by rfl)(l:(As<|xq es X.env).any (·.1)=false:=by rfl):
  N_ (.Call (.Name x p) (e::es) [] pos) (GU sp [] E0 t):=Kl G r g D.mg D.fn.kp D.bd .nil xZ a h H l
def O1{α:Type}{xs:ZH 0}{i:Int}(h0:0<=i)(h1:i<xs.length):∃v,YT i=a0 v/\xs[i.toNat]?=a0 v:=by
 let h2:i.toNat<xs.length:=⋯;refine⟨xs[i.toNat],?_,by simp[h2]⟩;unfold atI ixN;rw[if_pos h0,if_pos h1];simp[h2]
def bZ{α:Type}{xs:ZH 0}{v:α}(h:xs[i]?=a0 v):YT (i)=a0 v:=by let H:=(vz.mp h).1;unfold atI ixN;rw[if_pos ⋯,if_pos ⋯];simpa using h
def wY.upd{o:HO}(h:H a=a7):wY H (YG o):=λb u e=>by rw[aF<|cP e h];show e
def Def.mk'{h:e_}{y:Str}{st:h_}{f:d8}{oc:d6}{kV:d6}(X:K.In h)(G:h.Ns Uz mg)(a:WO K Uz x=a0 (a0 (.ref f)))(l:K.lookup f=a0 ⟨oc,od,.func<|US y y (dS st) (bY st) (aS st) .none kV doc pm an cdv ct,osl⟩)(c:WM K cdv y=true)(k:U2 K (.ref f)=true)(b:∀(kV doc pm)(an)(cdv ct)(us),us.length=ps.length->bindArgs (US y y (dS st) (bY st) (aS st) .none kV doc pm an cdv ct) ⟨us,[]⟩=pure (ps.zip us)):
  Def K mg x st f (US y y (dS st) (bY st) (aS st) .none kV doc pm an cdv ct) ps:=
 ⟨⟨k⟩,Z9 a,(D4 l c k).binds b⟩
open PySem.SeqAt
inductive D where
 |non|bl (b:Bool)|int (i:Int)|str (x:Str)|tup (xs:i_ D)
mutual
def D.depth:D->Nat
 |.tup xs=>D.depths xs+1
 |_=>0
def D.depths:i_ D->Nat
 |[]=>0
 |x::xs=>max (D.depth x) (D.depths xs)
end
mutual
def eqD:D->D->Bool
 |.non,.non=>true
 |.bl a,.bl b=>a == b
 |.bl a,.int b=>(if a then 1 else 0) == b
 |.int a,.bl b=>a == (if b then 1 else 0)
 |.int a,.int b=>a == b
 |.str a,.str b=>a == b
 |.tup xs,.tup ys=>FP xs ys
 |_,_=>false
def FP:i_ D->i_ D->Bool
 |[],[]=>true
 |x::xs,y::ys=>eqD x y&&FP xs ys
 |[],_::_=>false
 |_::_,[]=>false
end
mutual
def ltD:D->D->Y4 0
 |.int a,.int b=>a0 (decide (a<b))
 |.str a,.str b=>a0 (decide (a.cps.toList<b.cps.toList))
 |.tup xs,.tup ys=>BH xs ys
 |_,_=>a7
def BH:i_ D->i_ D->Y4 0
 |[],[]=>δw 0
 |[],_::_=>a0 true
 |_::_,[]=>δw 0
 |x::xs,y::ys=>if eqD x y=true then BH xs ys else ltD x y
end
abbrev mL(H H':Hp):Prop:=∀a xs,βR (.tup xs)->Rd H' a (.tup xs)
def mL.refl(H:Hp):mL H H:=λ_ _ h=>h
variable{H1 H2:Hp}
def mL.trans(a:mL H H1)(b:mL H1 H2):mL H H2:=λc x h=>b c x<|a c x h
def mL.same(s:wY H H'):mL H H':=λa x h=>by
 rcases h with h|⟨o,h⟩
 ·show .inl (s _ _ h)
 ·show .inr ⟨o,s _ _ h⟩
abbrev uV:jh HO->Prop
 |some (.tup _)=>False
 |some (.frz _ _)=>False
 |_=>True
def mL.upd{p:d8}{o:HO}(h:uV (H p)):mL H (t_ p o):=λa x q=>by
 let n:a≠p:=by
  rintro rfl;rcases q with q|⟨b,q⟩
  ·rw[q]at h;show h
  ·rw[q]at h;show h
 rcases q with q|⟨b,q⟩
 ·show .inl (by rw[aF n];show q)
 ·show .inr ⟨b,by rw[aF n];show q⟩
def mL.sq{xs:i_ V}(t:mL H H')(h:WW a xs):SqT K H' a xs:=by
 rcases h with h|h
 ·show .inl (t a xs h)
 ·show .inr h
variable{b:Bool}
section
variable{σ:St}
def pC(h:RcAt A s v u b)(S:v=u->b=true)(F:∀f t,v≠.float f t):Zv v u b:=λp w E Q q=>by
 refine Io <|wpAny_ite_split (λa=>?_)<|λ_=>?_
 ·let e:=S<|eq_of_beq a;subst e;show vy<|WE<|v8 q
 ·cases v <;> first|exact absurd rfl (F _ _)|exact vy (h p w E _<|Wp q)|(cases u <;> exact vy (h p w E _ _))
end
open PySem
abbrev keyLt:Xt 0->Xt 0->Bool
 |.inl a,.inl b=>decide (a<b)
 |.inr a,.inr b=>decide (a.cps.toList<b.cps.toList)
 |_,_=>false
abbrev cJ:i_ (Xt 0)->i_ (Xt 0)->Bool
 |[],[]=>false
 |[],_::_=>true
 |_::_,[]=>false
 |x::xs,y::ys=>if x=y then cJ xs ys else keyLt x y
abbrev oV:Xt 0->Bool
 |.inl _=>true
 |.inr _=>false
@[reducible]noncomputable def shape(ks:i_ (Xt 0)):i_ Bool:=ks.map oV
def Ei{a b:Str}(h:a.cps.toList=b.cps.toList):a=b:=by
 cases a;cases b
 congr;show Array.toList_inj.mp h
def Hq{a b:Xt 0}(h:keyLt a b=true):keyLt b a=false:=by
 cases a <;> cases b <;> first|rfl|skip
 ·have:=of_decide_eq_true h;show decide_eq_false ⋯
 ·show decide_eq_false (List.lt_asymm<|of_decide_eq_true h)
def yI{a b:Xt 0}(k:oV a=oV b)(h:keyLt a b=false)(h':keyLt b a=false):a=b:=by
 cases a <;> cases b <;> cases k
 ·let H:=of_decide_eq_false h;let z:=of_decide_eq_false h';congr 1;omega
 ·congr 1;show Ei<|List.le_antisymm (Wa.mp<|of_decide_eq_false h')<|Wa.mp<|of_decide_eq_false h
def Hr:∀{a b c:Xt 0},oV a=oV b->oV b=oV c->keyLt b a=false->keyLt c b=false->keyLt c a=false
 |.inl a,.inl b,.inl c,_,_,h,H=>by let z:=of_decide_eq_false h;let y:=of_decide_eq_false H;show decide_eq_false ⋯
 |.inr a,.inr b,.inr c,_,_,h,H=>by let z:=Wa.mp<|of_decide_eq_false h;let y:=Wa.mp<|of_decide_eq_false H;show decide_eq_false<|Wa.mpr<|List.le_trans z y
 |.inl _,.inr _,_,k,_,_,_=>by cases k
 |.inr _,.inl _,_,k,_,_,_=>by cases k
 |.inl _,.inl _,.inr _,_,k,_,_=>by cases k
 |.inr _,.inr _,.inl _,_,k,_,_=>by cases k
def Ej:∀{a b:i_ (Xt 0)},cJ a b=true->cJ b a=false
 |[],[],_=>rfl
 |[],_::_,_=>rfl
 |_::_,[],h=>by cases h
 |x::s,y::Y,h=>by
  unfold cJ at h⊢;by_cases e:x=y
  ·subst e;rw[if_pos rfl]at h⊢;show Ej h
  ·rw[W5 0]at h;rw[if_neg λz=>e z.symm];show Hq h
def qC:∀{a b:i_ (Xt 0)},shape a=shape b->cJ a b=false->cJ b a=false->a=b
 |[],[],_,_,_=>rfl
 |[],_::_,s,_,_=>by cases s
 |_::_,[],s,_,_=>by cases s
 |x::X,y::Y,s,h,H=>by
  unfold cJ at h H;by_cases e:x=y
  ·subst e;rw[if_pos rfl]at h H;rw[qC (by simpa using βk s) h H]
  ·rw[W5 0]at h;rw[if_neg λz=>e z.symm]at H;show absurd (yI (by simp_all) h H) e
def Ae:∀{a b c:i_ (Xt 0)},shape a=shape b->shape b=shape c->cJ b a=false->cJ c b=false->cJ c a=false
 |[],[],[],_,_,_,_=>rfl
 |[],[],_::_,_,S,_,_=>by cases S
 |[],_::_,_,s,_,_,_=>by cases s
 |_::_,[],_,s,_,_,_=>by cases s
 |_::_,_::_,[],_,S,_,_=>by cases S
 |x::X,y::Y,z::Z,s,S,h,H=>by
  let v:oV y=oV z:=by simpa using congrArg List.head? S
  unfold cJ at h H⊢;by_cases e:y=x
  ·subst e;rw[if_pos rfl]at h;by_cases E:z=y
   ·subst E;rw[if_pos rfl]at H⊢;show Ae (by simpa using βk s) (by simpa using βk S) h H
   ·rw[if_neg E]at H⊢;show H
  ·rw[W5 0]at h;by_cases E:z=y
   ·subst E;rw[W5 0];show h
   ·rw[if_neg E]at H;by_cases w:z=x
    ·subst w;exfalso;show e<|yI v h H
    ·rw[if_neg w];show Hr (by simpa using congrArg List.head? s) v h H
open PySem PySem.W PyProof.Rows
section
variable{lt:Nat->Nat->Bool}(tr:∀i j k,lt j i=false->lt k j=false->lt k i=false)(as:∀i j,lt i j=true->lt j i=false)
include tr as
end
open PySem.SeqAt PySem.W
section
variable(hn:0<n)
include hn
end
abbrev Af(H:Hp)(ps:i_ (d8×i_ V)):Hp:=λb=>match ps.lookup b with
 |some xs=>a0 (.tup xs)
 |none=>H b
def sH{κ:Type}{x:d8}{k:κ}:∀{l:i_ (d8×κ)},l.lookup x=a0 k->(x,k)∈l
 |[],h=>by simp at h
 |(n,v)::r,h=>by
  by_cases H:x=n
  ·subst H;simp[ym]at h;cases h
   show wa
  ·have:(x == n)=false:=by simpa using H
   simp[ym,this]at h;show YI<|sH h
def qD{κ:Type}{x:d8}:∀{l:i_ (d8×κ)},(∀p∈l,p.1≠x)->l.lookup x=a7
 |[],_=>rfl
 |(n,v)::r,h=>by
  let X:(x == n)=false:=by have:=h _ wa;simpa using λe:x=n=>this e.symm
  simp only[ym,X];show qD λp H=>h p<|wb _ H
def BI{ps:i_ (d8×i_ V)}{b:d8}(h:∀p∈ps,p.1≠b):Af H ps b=H b:=by unfold Af;rw[qD h]
def BJ{H:Hp}:∀{ps:i_ (d8×i_ V)}{j:Nat}{a:d8}{xs:i_ V},(ps.map (·.1)).Nodup->ps[j]?=a0 (a,xs)->Af H ps a=a0 (.tup xs)
 |[],_,_,_,_,h=>by simp at h
 |(n,v)::r,0,a,xs,_,h=>by simp at h;let⟨rfl,rfl⟩:=h;unfold Af;simp
 |(n,v)::r,j+1,a,xs,D,h=>by
  let⟨N,y⟩:=z7.mp D;let z:r[j]?=a0 (a,xs):=by simpa using h
  let E:(a == n)=false:=by have:a∈r.map (·.1):=wo.mpr ⟨_,ye z,rfl⟩;simpa using λe:a=n=>N<|e▸this
  let i:=BJ (H:=H) y z;unfold Af at i⊢;simp[ym,E];show i
section
variable{σ:St}
def Inv.laidT{ps:i_ (d8×i_ V)}(I:q_ s)(k:∀b u,oa 0=a0 u->Xs 0=a0 u)(y:∀p∈ps,((s).heap.objs.size)<=p.1)(w:∀p∈ps,p.2.length<=w9/\∃i,aI p.2 i/\sY h' p.1 i.toArray):
  a8 (Af H ps) {s with heap:=h',toks:=t'}:=by
 let N:∀b,b<((s).heap.objs.size)->∀p∈ps,p.1≠b:=λb h p P e=>z6 _<|xa h<|e▸y p P;let o:∀b,b<((s).heap.objs.size)->Af H ps b=H b:=λb h=>BI<|N b h;refine I.un ⟨λb u q _ _ _=>γg q,λb u q _ _ _=>⟨u.slots,γg q⟩,λb u q n _=>(o b<|wt q).trans n,λb u q _=>⟨u,γg q⟩,λb x q=>(o b<|I.hok.lt q).trans q,λb u x q=>(o b<|I.hok.lt q).trans q,λb S q=>⟨#[],by rw[o b<|I.hok.lt q,q];simp⟩⟩ ?_;intro b u e;unfold Af at e;cases q:ps.lookup b with
 |some x=>
  rw[q]at e;cases e
  let⟨z,i,r,p⟩:=w _<|sH q;show⟨z,i,r,p⟩
 |none=>rw[q]at e;show(αP u e).stay (λc v _ q=>k c v q) (λc q=>(o c<|I.hok.lt q).trans q) λc x q=>(o c<|I.hok.lt q).trans q
def yJ(I:q_ s){ps:i_ (d8×i_ V)}(P:∀p∈ps,((s).heap.objs.size)<=p.1):wY H (Af H ps):=λb o e=>by let n:∀p∈ps,p.1≠b:=λp h z=>z6 _<|xa (I.hok.lt e)<|z▸P p h;rw[BI n];show e
end
def FQ{α:Type}{xs:ZH 0}{d:α}{p:v_ 0}(h:p.Perm (zo xs.length)):(p.map λi=>xs.getD i d).Perm xs:=by
 let e:(zo xs.length).map (λi=>xs.getD i d)=xs:=by
  apply UX;intro i;by_cases H:i<xs.length
  ·simp[H]
  ·simp[H]
 have:=h.map λi=>xs.getD i d
 rwa[e]at this
def rB{vs:i_ V}{us:Xu 0}(r:Z3 0):∀{p:v_ 0},(∀i∈p,i<vs.length)->aI (p.map λi=>vs.getD i .non) (p.map λi=>us.getD i zc)
 |[],_=>.nil
 |i::p,h=>by
  let g:vs[i]?=a0 (vs.getD i .non):=by simp[h i wa]
  let⟨u,U,R⟩:=r.get g;let e:us.getD i zc=u:=by simp[U]
  refine .cons ?_<|rB r λj H=>h j<|wb _ H
  change RelV _ (us.getD i _)
  rw[e];show R
variable{dc:d8}{ep:Nat}{oc:Obj}{it:d8}
section
variable{v:d8}{es:Y8 0}
def FT(h:s.heap.IsValuesView v dc)(h1:W6 0=a0 oc)(h2:oc.data=.dict es ep)(q:Q (.ref<|(s).heap.objs.size) {s with heap:=s.heap.push {cls:=.type "dict_valueiterator",data:=.fields #[.ref dc,.int 0 0,.int es.size 0,.int ep 0]} }):cu (pyIter<|.ref v) Q E s:=by
 let⟨o,g,z,G⟩:=id h;refine γU F.slot_dict_values_iter (zd F.slot_dict_values_iter h.typeIs F.entry_dict_values_iter (show X1 _ from ?_) (F.args_dict_values_iter_1 _))
 refine vy<|v8<|vy ?_;unfold Builtin.Dict_items.dictOf;refine vy<|Ui g G (x:=.ref dc) rfl<|v8<|vy ?_;unfold Builtin.Dict_items.newIterator;refine vy<|z0 h1 h2<|vy<|UM h1 h2 ?_;rw[show Builtin.Dict_items.ownsTuple "dict_valueiterator" = false by decide];simp only[Ux,if_false];refine xy (v8 ⟨_,rfl,"dict_valueiterator",_,⟨_,XO rfl,rfl⟩,UJ.lookup,(by assumption)⟩)
def Hs{Q:jh d6->d7->Prop}(h:βv ep)(h1:W6 0=a0 oc)(h2:oc.data=.dict es ep)(l)(q:∀H,H.IsValIter it dc (i+1) es.size ep->U9 it s.heap H->Q (a0 es[i].val) {s with heap:=H}):cu (pyNext<|.ref it) Q E s:=by
 let⟨o,G,z,g⟩:=id h;refine vy<|U3<|y0 h.typeIs UJ<|zd UJ h.typeIs F.entry_dict_valueiterator_next ?_<|F.args_dict_valueiterator_next_1 _;refine vy<|v8<|vy<|vy ?_
 first|refine vy (γs<|v8 ?_)|refine vy (VZ _<|v8 ?_)
 refine vy<|VO G g ?_;refine vy<|v8<|vy<|z0 h1 h2 ?_;rw[if_neg<|show ¬ _ by simp];refine vy<|v8<|vy<|UM h1 h2 ?_;rw[if_neg<|show ¬ _ by simp];refine v8 ?_;simp[if_false,UN l];refine vy ?_
 first|refine vy (γs<|v8 ?_)|refine vy (VZ _<|v8 ?_)
 refine vy (wpAny_isOneOf_valiter h.typeIs<|show W0 (setField _ 1 (rawInt<|(i)+1) >>= _) _ _ s from vy (Vh G g (by simp) ?_))
 let I:(A1 (Uj (·.setIfInBounds 1 (rawInt<|(i)+1)))).IsValIter it dc (i+1) es.size ep:=⟨_,yb _ G<|Vk<|U5 g _,(Obj.cls_mapFields ..).trans z,by rw[U5 g];simp[rawInt]⟩;let t:({s with heap:=A1 (Uj (·.setIfInBounds 1 (rawInt<|(i)+1)))}:d7).TypeIs _ "dict_valueiterator" := I.typeIs;refine vy<|Io<|vy<|wpAny_isOneOf_valiter t<|vy<|wpAny_isOneOf_valiter t ?_;show v8<|v8 ⟨_,rfl,v8<|q _ I<|yj ..⟩
def Ht{Q:jh d6->d7->Prop}(y:A.handled=a7)(h:βv ep)(h1:W6 0=a0 oc)(h2:oc.data=.dict es ep)(g:es.size<=i)(q:∀H,YN H->Q a7 {s with heap:=H}):cu (pyNext<|.ref it) Q E s:=by
 let⟨o,G,x,z⟩:=id h;refine vy<|U3<|y0 h.typeIs UJ<|zd UJ h.typeIs F.entry_dict_valueiterator_next ?_<|F.args_dict_valueiterator_next_1 _;refine vy<|v8<|vy<|vy ?_
 first|refine vy (γs<|v8 ?_)|refine vy (VZ _<|v8 ?_)
 refine vy<|VO G z ?_;refine vy<|v8<|vy<|z0 h1 h2 ?_;rw[if_neg<|show ¬ _ by simp];refine vy<|v8<|vy<|UM h1 h2 ?_;rw[if_neg<|show ¬ _ by simp];refine v8 ?_;simp[if_false,zw g];refine vy ?_
 first|refine vy (γs<|v8 ?_)|refine vy (VZ _<|v8 ?_)
 refine(show W0 (setField _ 0 .none >>= _) _ _ s from vy (Vh G z (by simp) ?_))
 refine(show W0 (newExc _ [] >>= _) _ _ _ from vy ?_);simp[newExc]
 refine vy (xy (vy<|wpAny_of_eq (a:=zc) (by first|rfl|(simp;rfl))<|xy ?_<|by size_fits)<|by size_fits)
 refine vy<|wpAny_handled ?_;rw[show A.in1.handled=a7 from y]
 refine vy<|v8<|wpAny_throw ?_;refine vy<|VF ⟨_,XO rfl,rfl⟩ isSubtype_stop ?_;show v8<|q _<|((yj ..).extBut.push _).push _
def Di(u:A.handled=a7)(I dc)(n:dc≠I)(oc)(es)(ep)(h2:oc.data=.dict es ep):
  βV A I [I,dc] [I] es.size (λi v=>∃e,es[i]?=a0 e/\v=e.val) (λi h=>h.IsValIter I dc i es.size ep/\h.get? dc=a0 oc) where
 sub:=λb B=>by rw[wx.mp B];show wa
 frame:=λ_ _ _ t k=>⟨let ⟨o,e,r⟩:=t.1;⟨o,k I wa o e,r⟩,k dc (YI wa) _ t.2⟩
 item:=λi s Q E q t H=>Hs t.1 t.2 h2 q λy T S=>H _ y _ ⟨es[i],by simp,rfl⟩ ⟨T,(S.2 dc n).trans t.2⟩ λb o B e=>(S.2 b λz=>B (by rw[z];show wa)).trans e
 done:=λs Q E t H=>Ht u t.1 t.2 h2 (wj _) λy x=>H y _ λb o B e=>x b o (λz=>B (by rw[z];show wa)) e
 self:=λ_ _ _ _ t H=>wpAny_pyIter_valiter t.1 H
def BK{r:d8}(h2:oc.data=.dict es ep):PySem.W.KdlSrc prog w "dict_values" r dc es.size (λi v=>∃e,es[i]?=a0 e/\v=e.val) (λh=>h.IsValuesView r dc/\h.get? dc=a0 oc) where
 type:=λ_ m=>m.1.typeIs
 there:=λ_ m=>⟨let ⟨_,ho,_⟩:=m.1;wt ho,wt m.2⟩
 keep:=λ_ _ m k=>⟨let ⟨o,ho,x⟩:=m.1;⟨o,k r (.inl rfl) o ho,x⟩,k dc (.inr rfl) _ m.2⟩
 notList:=by decide
 notTuple:=by decide
 hint:=λ_ _ _ _ m q=>PySem.W.kdl_hint_values m.1.typeIs q
 iter:=λ_ _ H m=>⟨_,_,(λ_ _ q=>FT m.1 m.2 h2 q),Di H _ dc (xj<|wt m.2) oc es ep h2,⟨⟨_,XO rfl,rfl,rfl⟩,W4 m.2⟩⟩
def Ag(dc)(d:(dc == Uy)=false):γ9 (Builtin.«dict.values» ⟨[.ref dc],[]⟩) (λ_ R s=>s.TypeIs (.ref dc) "dict" /\
   R (.ok (.ret (.ref ((s).heap.objs.size)))) {s with heap:=s.heap.push {cls:=.type "dict_values",data:=.fields #[.ref dc]} }):=
 .of_wp λA R s ⟨T,h⟩=>by
  refine vy ?_;unfold Builtin.Dict.noArgs;refine vy (Wj T<|show W0 (pure dc) _ _ s from v8 (show X1 s from ?_))
  unfold Wl;rw[if_neg (by rw[d];decide)];refine vy<|v8<|vy<|xy<|v8 ⟨_,rfl,h⟩
end
namespace FR
def nolen_lr:typeLookup (.type "list_reverseiterator") "__len__" = pure a7:=by rw[typeLookup_type,builtinLookup_eq_fast];kernel_rfl
def hint_lr:typeLookup (.type "list_reverseiterator") "__length_hint__" = pure (a0<|.builtin "list_reverseiterator.__length_hint__"):=by rw[typeLookup_type];kernel_rfl
end FR
@[reducible]noncomputable def Hu(items:y_ 0)(i:Nat)(v:d6):Prop:=items[items.size-1-i]?=a0 v
def Hv{Q:(Bool->d7->Prop)}(T:s.TypeIs (.ref it) "list_reverseiterator")(h:Q false s):cu (Builtin.List.listLengthHint<|.ref it) Q E s:=by
 unfold Builtin.List.listLengthHint;refine vy<|VY T FR.nolen_lr ?_
 change k_ A _ _ _ _
 refine vy<|VY T FR.hint_lr ?_;generalize i:("list_reverseiterator.__length_hint__" : String)=id0
 wp_delta
 rw[show splitId id0=a0 ("list_reverseiterator","__length_hint__") from by subst i;decide +kernel]
 subst i;refine vy<|VF (b:=true) T rfl ?_;show v8 h
variable{items:y_ 0}
def Dj{l:d8}(j:A.handled=a7)(i:αu ((items.size:Int)-1))(g:βG 0)(N:l≠it)(S)(H:S≠it)(L:S≠l)(res)(c₀)(k:βH 0=a0 {cls:=.type "list",data:=.seq #[] c₀})(p:∀y T a c,(∀b o,b≠S->b≠it->oa 0=a0 o->y.get? b=a0 o)->y.get? S=a0 {cls:=.type "list",dict:=a7,data:=.seq a c,slots:=#[]}->ItemsOf (Hu items) a items.size->R (.ok<|.ret res) {s with heap:=y,toks:=T})(d:items.size<=w9):
  H_ (VC (.ref S) (.ref it) res)
   (λn z=>match n with|.done f=>R (.ok f) z|.again c=>c.quiet=true/\codeAny (Q_ w) A c R z) (λe z=>R (.error e) z) s:=by
 let v:S∉[it,l]:=by simp[wu,TZ,or_false,not_or];show⟨H,L⟩
 let W:=Walks.listRev (prog:=prog) (w:=w) (A:=A.in1) j it l N items;let t:0<=items.size/\αu ((items.size:Int)-1-((0:Nat):Int))/\βG 0:=⟨zk _,by
  let e:(items.size:Int)-1-((0:Nat):Int)=(items.size:Int)-1:=⋯;rw[e];show i,g⟩
 refine vy<|wpAny_typeOf i.typeIs ?_;let u:V0 (.ref S) (.ref it)=false:=by simp[V0,H]
 let r:(Wo "list_reverseiterator" == Wo "list")=false:=by decide
 let q:(Wo "list_reverseiterator" == Wo "tuple")=false:=by decide
 simp[u,r,q];refine vy<|W.self _ _ _ _ t ?_;refine vy<|Io<|Hv i.typeIs ?_;refine v8 ⟨UP Vi _,codeAny_extend_loopS W.toS d S v res _ 0 _ #[] c₀ rfl (zk _) t k (ItemsOf.nil _) λz a c m x C=>?_⟩;rw[Moved.eq_with m];refine βI a c (λb o B I e=>m.heap b o (λh=>?_) e) x C;rcases wu.mp h with E|h
 ·show B E
 ·show I (wx.mp h)
def xJ{l:d8}(q:A.handled=a7)(i:αu ((items.size:Int)-1))(v:βG 0)(n:l≠it)(N:items.size<=w9)(u:∀H k a C,(∀b o,b≠it->oa 0=a0 o->H.get? b=a0 o)->H.get? ((s).heap.objs.size)=a0 {cls:=.type "list",dict:=a7,data:=.seq a C,slots:=#[]}->ItemsOf (Hu items) a items.size->Q (.ref<|(s).heap.objs.size) {s with heap:=H,toks:=k}):
  cu (call (.type "list") [.ref it]) Q E s:=by
 refine callType_codes (Q₁:=λj S=>j=.ref ((s).heap.objs.size)/\S={s with heap:=s.heap.push {cls:=.type "list",data:=.seq #[]} }) PySem.F.called_list (PySem.F.typeCall_list_1 _) PySem.F.entry_list_init
  (code_list_new _ ⟨rfl,rfl⟩) λj S z=>?_
 let⟨rfl,rfl⟩:=z;let y:(s.heap.push {cls:=.type "list",data:=.seq #[]}).get? ((s).heap.objs.size)=a0 {cls:=.type "list",data:=.seq #[]}:=XO rfl;let L:it<((s).heap.objs.size):=let ⟨o,ho,_⟩:=i;wt ho;let T:l<((s).heap.objs.size):=let ⟨o,ho,_⟩:=v;wt ho;refine⟨⟨_,y,rfl⟩,PySem.F.args_list_init_2 _ _,?_⟩
 change k_ A.in1.in1 _ _ _ _
 refine vy ?_;unfold Builtin.List.listItems;refine vy<|Ur y rfl<|v8 ?_;refine vy<|U6 y rfl ?_;let h:=yb (zy<|λ_=>(#[]:y_ 0)) y rfl;let t:∀b o,b≠((s).heap.objs.size)->oa 0=a0 o->((s.heap.push {cls:=.type "list",data:=.seq #[]}).update ((s).heap.objs.size)<|zy<|λ_=>(#[]:y_ 0)).get? b=a0 o:=
  λb o B e=>(Yz<|zj B).trans<|v7 _ e
 refine vy<|UQ ?_;refine Dj (A:=A.in1) q (i.at λo e=>t it o (xj L) e) (let ⟨o,ho,r⟩:=v;⟨o,t l o (xj T) ho,r⟩) n ((s).heap.objs.size) (zr L) (zr T) .none _ h (λH k a C K x c=>?_) N;show⟨rfl,u H k a C (λb o B e=>K b o (xj<|wt e) B<|t b o (xj<|wt e) e) x c⟩
variable{ov:d6}
def iW{ok:d6}(h:X_ n ep ok ov):s.TypeIs (.ref it) "dict_itemiterator" := ⟨_,h,rfl⟩
def uW{v:d8}{es:Y8 0}(h:s.heap.IsItemsView v dc)(h1:W6 0=a0 oc)(h2:oc.data=.dict es ep)(q:Q (.ref<|(s).heap.objs.size) {s with heap:=s.heap.push {cls:=.type "dict_itemiterator",data:=.fields #[.none,.bool false,.ref dc,.int 0 0,.int es.size 0,.int ep 0,.none,.none]} }):cu (pyIter<|.ref v) Q E s:=by
 let⟨o,g,z,G⟩:=id h;refine γU F.slot_dict_items_iter (zd F.slot_dict_items_iter h.typeIs F.entry_dict_items_iter (show X1 _ from ?_) (F.args_dict_items_iter_1 _))
 refine vy<|v8<|vy ?_;unfold Builtin.Dict_items.dictOf;refine vy<|Ui g G (x:=.ref dc) rfl<|v8<|vy ?_;unfold Builtin.Dict_items.newIterator;refine vy<|z0 h1 h2<|vy<|UM h1 h2 ?_;rw[show Builtin.Dict_items.ownsTuple "dict_itemiterator" = true by decide];simp only[if_true,Builtin.Dict_items.ownedTupleFields];refine xy (v8 ⟨_,rfl,"dict_itemiterator",_,⟨_,XO rfl,rfl⟩,yr.lookup,(by assumption)⟩)
def next_item{es:Y8 0}{ok:d6}{Q:jh d6->d7->Prop}(z:X_ es.size ep ok ov)(h1:W6 0=a0 oc)(h2:oc.data=.dict es ep)(l:i<es.size)(q:∀u,IsItemIterOut u it dc (i+1) es.size ep es[i].key es[i].val ((s).heap.objs.size)->u.get? ((s).heap.objs.size)=a0 {cls:=.type "tuple",data:=.seq #[es[i].key,es[i].val]}->
   (∀(b:d8)(o:Obj),b≠it->oa 0=a0 o->u.get? b=a0 o)->Q (a0 (.ref ((s).heap.objs.size))) {s with heap:=u}):cu (pyNext (.ref it)) Q E s:=by
 let T:=iW z;refine vy<|U3<|y0 T yr<|zd yr T Vl ?_<|Vf _;refine vy<|v8<|vy<|vy ?_;refine vy<|zm T<|v8 ?_;refine vy<|VO z rfl ?_;refine vy<|v8<|vy<|z0 h1 h2 ?_;rw[if_neg<|show ¬ _ by simp];refine vy<|v8<|vy<|UM h1 h2 ?_;rw[if_neg<|show ¬ _ by simp];refine v8 ?_;simp only[if_false,Int.toNat_natCast,UN l];refine vy ?_;refine vy<|zm T<|v8 ?_;refine vy (Vc T<|show W0 (setField (.ref it) 3 (rawInt<|(i:Int)+1) >>= _) _ _ s from vy (Vh z rfl (by simp) ?_))
 let H:IsItemIter (A1 (Uj (·.setIfInBounds 3 (rawInt<|(i:Int)+1)))) it dc (i+1) es.size ep ok ov:=by
  change(A1 _).get? it=_
  rw[yb _ z<|Vk<|U5 rfl _];simp[Uj,rawInt]
 let K:∀(b:d8)(o:Obj),b≠it->oa 0=a0 o->(A1 (Uj (·.setIfInBounds 3 (rawInt<|(i:Int)+1)))).get? b=a0 o:=λb o h e=>by rw[(yj ..).2 b h];show e
 let Z:(A1 (Uj (·.setIfInBounds 3 (rawInt<|(i:Int)+1)))).objs.size=((s).heap.objs.size):=(yj ..).1;generalize s.heap.update it (Uj (·.setIfInBounds 3 (rawInt<|(i:Int)+1)))=hA at H K Z;let y:({s with heap:=hA}:d7).TypeIs (.ref it) "dict_itemiterator" := iW H;refine vy<|Io<|vy<|Vc y<|vy<|Vc y ?_;refine vy (xy ?_<|by size_fits);let I:IsItemIter (hA.push {cls:=.type "tuple",data:=.seq #[es[i].key,es[i].val]}) it dc (i+1) es.size ep ok ov:=W4 H;let G:(hA.push {cls:=.type "tuple",data:=.seq #[es[i].key,es[i].val]}).get? hA.objs.size=a0 {cls:=.type "tuple",data:=.seq #[es[i].key,es[i].val]}:=XO rfl;let p:∀(b:d8)(o:Obj),b≠it->oa 0=a0 o->(hA.push {cls:=.type "tuple",data:=.seq #[es[i].key,es[i].val]}).get? b=a0 o:=λb o h e=>W4<|K b o h e;rw[Z]at G;let n:=zr<|wt z;let W:(z8 ({s with heap:=hA}:d7).heap.objs.size)=.ref ((s).heap.objs.size):=by rw[<-Z]
 simp only[W];refine vy<|vy<|Ui I rfl (x:=.none) rfl<|v8 ?_;refine vy<|Ui I rfl (x:=ok) rfl<|vy<|Ui I rfl (x:=ov) rfl ?_;let t:∀{h1:e_}{S:y_ 0}{j:Nat}{x:d6}{m:Type}{f:Unit->Sem m}{R:(m->d7->Prop)}{r:(d6->d7->Prop)},h1.get? it=a0 {cls:=.type "dict_itemiterator",data:=.fields S}->j<S.size->
   (∀h2:e_,h2.get? it=a0 {cls:=.type "dict_itemiterator",data:=.fields (S.setIfInBounds j x)}->(∀(b:d8),b≠it->h2.get? b=h1.get? b)->H_ (f ()) R r {s with heap:=h2})->
   H_ (setField (.ref it) j x >>= f) R r {s with heap:=h1}:=λ{h1 S j x m f R r} g J k=>by
  refine vy<|Vh g rfl J ?_;refine k _ ?_ λb h=>(yj ..).2 b h;rw[yb _ g<|Vk<|U5 rfl _];simp[Uj]
 refine t I (by simp) λN V c=>?_;refine t V (by simp) λM U a=>?_;refine t U (by simp) λL P Y=>?_;refine t P (by simp) λd O X=>?_;refine vy (UQ<|v8<|v8 ⟨_,rfl,v8<|q d (by rw[<-Z];change d.get? it=_;rw[O];simp) ?_ λb o h e=>?_⟩)
 ·rw[X _ n,Y _ n,a _ n,c _ n];show G
 ·rw[X _ h,Y _ h,a _ h,c _ h];show p b o h e
def FU{es:Y8 0}{ok:d6}{Q:jh d6->d7->Prop}(z:A.handled=a7)(I:X_ es.size ep ok ov)(h1:W6 0=a0 oc)(h2:oc.data=.dict es ep)(g:es.size<=i)(q:∀H,YN H->Q a7 {s with heap:=H}):cu (pyNext<|.ref it) Q E s:=by
 let h:=iW I;refine vy<|U3<|y0 h yr<|zd yr h Vl ?_<|Vf _;refine vy<|v8<|vy<|vy ?_;refine vy<|zm h<|v8 ?_;refine vy<|VO I rfl ?_;refine vy<|v8<|vy<|z0 h1 h2 ?_;rw[if_neg<|show ¬ _ by simp];refine vy<|v8<|vy<|UM h1 h2 ?_;rw[if_neg<|show ¬ _ by simp];refine v8 ?_;simp[if_false,zw g];refine vy ?_;refine vy<|zm h<|v8 ?_;refine(show W0 (setField _ 2 .none >>= _) _ _ s from vy (Vh I rfl (by simp) ?_))
 refine(show W0 (newExc _ [] >>= _) _ _ _ from vy ?_);simp[newExc]
 refine vy (xy (vy<|wpAny_of_eq (a:=zc) (by first|rfl|(simp;rfl))<|xy ?_<|by size_fits)<|by size_fits)
 refine vy<|wpAny_handled ?_;rw[show A.in1.handled=a7 from z]
 refine vy<|v8<|wpAny_throw ?_;refine vy<|VF ⟨_,XO rfl,rfl⟩ isSubtype_stop ?_;show v8<|q _<|((yj ..).extBut.push _).push _
def uX:entryFor table "dict_itemiterator.__iter__" = a0 Builtin.«dict_keyiterator.__iter__»:=entryFor_alias (id':="dict_keyiterator.__iter__") rfl rfl (by decide +kernel) (by rfl)
def Dk{ok:d6}(I:X_ n ep ok ov)(q:Q (.ref it) s):cu (pyIter<|.ref it) Q E s:=by
 let h:=iW I;refine wpAny_pyIter_slot h F.slot_dict_itemiterator_iter (zd F.slot_dict_itemiterator_iter h uX (show X1 _ from ?_) (F.args_dict_itemiterator_iter_1 _))
 refine vy<|v8 ?_;show v8 ⟨_,rfl,"dict_itemiterator",_,h,yr.lookup,q⟩
def BL(dc)(d:(dc == Uy)=false):γ9 (Builtin.«dict.items» ⟨[.ref dc],[]⟩) (λ_ R s=>s.TypeIs (.ref dc) "dict" /\
   R (.ok (.ret (.ref ((s).heap.objs.size)))) {s with heap:=s.heap.push {cls:=.type "dict_items",data:=.fields #[.ref dc]} }):=
 .of_wp λA R s ⟨T,h⟩=>by
  refine vy ?_;unfold Builtin.Dict.noArgs;refine vy (Wj T<|show W0 (pure dc) _ _ s from v8 (show X1 s from ?_))
  unfold Wl;rw[if_neg (by rw[d];decide)];refine vy<|v8<|vy<|xy<|v8 ⟨_,rfl,h⟩
open PySem.SeqAt PySem.W
abbrev jX(b:Bool)(n i:Nat):Nat:=if b then n-1-i else i
abbrev BM(b:Bool)(n:Nat)(p:v_ 0):v_ 0:=E_<|p.map<|jX b n
def mN{α:Type}(b){l:ZH 0}{d:α}(hi:i<l.length):(E_ l).getD i d=l.getD (jX b l.length i) d:=by
 cases b with
 |false=>rfl
 |true=>
  change l.reverse.getD i d=l.getD (l.length-1-i) d
  rw[xo,xo,List.getElem?_reverse hi]
def iD(h:i<n):jX b n i<n:=by unfold jX;split <;> omega
def Dl{p:v_ 0}(h:p.Perm (zo n)):(BM b n p).Perm (zo n):=by
 cases b with
 |false=>
  let e:BM false n p=p:=by
   change p.map (λi=>jX false n i)=p
   have:(λi=>jX false n i)=id:=by funext i;rfl
   rw[this,List.map_id]
  rw[e];show h
 |true=>
  let e:(zo n).map (jX true n)=(zo n).reverse:=by
   apply List.ext_getElem
   ·simp
   ·intro i H z;simp[jX]
  refine(Uq _).trans ((h.map _).trans ?_);rw[e];show Uq _
def Dm{p:v_ 0}{lt:Nat->Nat->Bool}(h:p.Pairwise (λi j=>lt (jX b n j) (jX b n i)=false)):(BM b n p).Pairwise (λi j=>(if b then lt i j else lt j i)=false):=by
 let H:(p.map _).Pairwise (λi j=>lt j i=false):=Ud.mpr h;cases b with
 |false=>exact H
 |true=>
  change((p.map _).reverse).Pairwise _
  rw[Ug];show H
def FV{p:v_ 0}(h:∀i∈p,i<vs.length):E_ (p.map λi=>(E_ vs).getD i zc)=(BM b vs.length p).map λi=>X7 zc:=by
 let e:(p.map λi=>(E_ vs).getD i zc)=(p.map<|jX b vs.length).map λi=>X7 zc:=by rw[yg];show y1 λi H=>mN b<|h i H
 rw[e];unfold BM katRev;split
 ·rw[List.map_reverse]
 ·rfl
def Dn{α:Type}(b)(l:ZH 0):E_ (E_ l)=l:=by unfold katRev;split <;> simp
def range_getD(vs):((α2 0).map λi=>X7 zc)=vs:=by
 apply UX;intro i;by_cases h:i<vs.length
 ·simp[h]
 ·simp[h]
variable{e1:Nat}{kS:d8}{out:Xu 0}
def MK{e:Nat}{P:PySem.Fin->d7->Prop}(iw:(arrOf st).map (·.2)=out.toArray)(hz:out.length<1000000)(hkz:ks.length<1000000)(hf:VQ st=a7)(iy:kS≠a)(gk:s.heap.get? kS=a0 (seqObj "list" ks.toArray e))(ga:YH 0=a0 (seqObj "list" #[] e1))(h:∀(h':e_)(c:Nat),(∀x o,x≠a->x≠kS->A4 0=a0 o->βJ 0=a0 o)->δq 0=a0 (seqObj "list" (E_ out).toArray c)->(∃o,δi 0=a0 o)->P (.done<|.ret .none) {s with heap:=h'}):
  cu (ksk_tail a b e1 (.ref kS) st) P E s:=by
 let w1:=yj s.heap kS<|zy λ_=>(#[]:y_ 0);obtain⟨ck,hck⟩:∃ck,(β3<|zy λ_=>(#[]:y_ 0)).get? kS=a0 (seqObj "list" #[] ck):=⟨_,get?_update_seq gk λ_=>#[]⟩;let lj:=(w1.2 a iy.symm).trans ga;let w2:=yj (β3<|zy λ_=>(#[]:y_ 0)) a<|zy λ_=>(E_ out).toArray;obtain⟨c2,ik⟩:∃c2,((β3<|zy λ_=>(#[]:y_ 0)).update a<|zy λ_=>(E_ out).toArray).get? a=a0 (seqObj "list" (E_ out).toArray c2):=⟨_,get?_update_seq lj λ_=>(E_ out).toArray⟩;let hsz:(E_ out).toArray.size=out.length:=by rw[w6,kat_len]
 unfold ksk_tail
 try dsimp only
 rw[iw,kat_outs];refine vy (listUpdate_at gk rfl ?_ (by rw[w6,Uu];omega)<|zk _);refine vy<|UQ<|vy<|seqEpoch_at lj rfl ?_;refine vy (listUpdate_at lj rfl ?_ (zk _)<|yd (Nat.le_of_eq hsz) (by rw[Uu];omega));rw[hf];simp only[bne_self_eq_false,Ux,if_false];show v8<|h _ c2 (λx o h1 h2 q=>(w2.2 x h1).trans<|(w1.2 x h2).trans q) ik ⟨_,(w2.2 kS iy).trans hck⟩
def SQ{e:Nat}{P:PySem.Fin->d7->Prop}(lt:Nat->Nat->Bool)(hl:ks.length=vs.length)(fi:vs.length<1000000)(iy:kS≠a)(tr:∀i j k,i<vs.length->j<vs.length->k<vs.length->lt j i=false->lt k j=false->lt k i=false)(as:∀i j,i<vs.length->j<vs.length->lt i j=true->lt j i=false)(gk:s.heap.get? kS=a0 (seqObj "list" ks.toArray e))(ga:YH 0=a0 (seqObj "list" #[] e1))(hk:2<=vs.length->∀(Q:(VR->d7->Prop)) E',Q κ s->cu (keyKind' ks.toArray) Q E' s)(e7:∀i j,i<vs.length->j<vs.length->∀Q:(Bool->d7->Prop),Q (lt i j) s->cu (keyLt' κ (γp zc) (ks.getD j zc)) Q (λ_ _=>False) s)(h:∀(p:v_ 0)(h':e_)(c:Nat),p.Perm (α2 0)->p.Pairwise (λi j=>(if b then lt i j else lt j i)=false)->(∀x o,x≠a->x≠kS->A4 0=a0 o->βJ 0=a0 o)->
   δq 0=a0 (seqObj "list" (p.map λi=>X7 zc).toArray c)->(∃o,δi 0=a0 o)->P (.done (.ret .none)) {s with heap:=h'}):
  cu (ksk_end a b vs.toArray e1 (.ref kS) ks.toArray) P E s:=by
 have skip:∀t:Sem PySem.Fin,cu t P E s->cu (if b=true then(do let _ <-rule "list.sort.reverse";t) else t) P E s:=λt ht=>by
  split
  ·exact vy (WE ht)
  ·exact ht
 have jc:(E_ ks).length=(E_ vs).length:=by rw[kat_len,kat_len,hl]
 unfold ksk_end
 try dsimp only
 refine skip _ ?_
 rw[kat_pairs b hl]
 by_cases h2:vs.toArray.size<2
 ·rw[if_pos h2,if_pos h2]
  rw[w6]at h2
  refine vy<|v8 ?_
  rw[StateT.run_pure]
  refine vy<|v8 ?_
  try dsimp only
  refine MK (st:=SortSt.mk' general' ((E_ ks).toArray.zip (E_ vs).toArray) #[] 7 a7) (out:=E_ vs) (ks:=ks) ?_ (by rw[kat_len];exact fi) ⋯ rfl iy gk ga λh' c k1 k2 k3=>?_
  ·show((E_ ks).toArray.zip (E_ vs).toArray).map (·.2)=(E_ vs).toArray
   apply Array.toList_inj.mp
   rw[Array.toList_map,ksk_zip]
   show(List.zip _ _).map Prod.snd=_
   rw[List.map_snd_zip (by rw[jc];exact wj _)]
  ·rw[Dn]at k2
   refine h (α2 0) h' c (Vw _) ?_ k1 (by rw[range_getD];exact k2) k3
   rw[zh]
   intro i j hi hj hij
   simp only[Wr]at hi hj
   omega
 ·rw[if_neg h2,if_neg h2]
  rw[w6]at h2
  refine vy<|hk ⋯ _ _ ?_
  refine vy (U8 (Hk (ks:=E_ ks) (vs:=E_ vs) (E:=E) (κ:=κ) jc (λi j=>lt (jX b vs.length i) (jX b vs.length j))
   (by rw[kat_len];exact λi j k hi hj hk=>tr _ _ _ (iD hi) (iD hj) (iD hk)) (by rw[kat_len];exact λi j hi hj=>as _ _ (iD hi) (iD hj)) (by
    rw[kat_len]
    intro i j hi hj C hC
    rw[mN b ⋯,mN b ⋯,hl]
    exact e7 _ _ (iD hi) (iD hj) C hC)) ?_ λ_ _ x=>x)
  rintro⟨⟨⟩,aa⟩ s' ⟨rfl,p,c1,c2,iw,hf⟩
  try dsimp only
  rw[kat_len]at c1
  have dy:∀i∈p,i<vs.length:=λi hi=>by simpa using c1.mem_iff.mp hi
  refine MK (ks:=ks) iw (by rw[wd,c1.length_eq,Wr];exact fi) ⋯ hf iy gk ga λh' c k1 k2 k3=>?_
  rw[FV dy]at k2
  exact h _ h' c (Dl c1) (Dm c2) k1 k2 k3
def uY{f:d6}{P:PySem.Fin->d7->Prop}(ho:YH 0=a0 (seqObj "list" vs.toArray n))(fi:vs.length<1000000)(J:d8->Nat->Xu 0->Nat->d7->Prop)(h0:∀(kS e1:Nat)(h':e_),(∀x o,x≠a->A4 0=a0 o->βJ 0=a0 o)->((s).heap.objs.size)<=kS->δq 0=a0 (seqObj "list" #[] e1)->δi 0=a0 (seqObj "list" #[] 0)->J kS e1 [] 0 {s with heap:=h'})(en:∀kS e1 ks e s',βW s'->kS≠a/\s'.heap.get? a=a0 (seqObj "list" #[] e1)/\s'.heap.get? kS=a0 (seqObj "list" ks.toArray e))(turn:∀kS e1 ks e s' x,vs[ks.length]?=a0 x->βW s'->cu (call f [x]) (λv da=>da.heap.get? kS=a0 (seqObj "list" ks.toArray e)/\∀(h':e_) e',U9 kS da.heap h'->δi 0=a0 (seqObj "list" (ks++[v]).toArray e')->J kS e1 (ks++[v]) e' { da with heap:=h'}) (λ_ _=>False) s')(fin:∀kS e1 ks e s',ks.length=vs.length->βW s'->∃lt:Nat->Nat->Bool,(∀i j k,i<vs.length->j<vs.length->k<vs.length->lt j i=false->lt k j=false->lt k i=false)/\(∀i j,i<vs.length->j<vs.length->lt i j=true->lt j i=false)/\
   (2<=vs.length->∀(Q:(VR->d7->Prop)) E',Q κ s'->cu (keyKind' ks.toArray) Q E' s')/\
   (∀i j,i<vs.length->j<vs.length->∀Q:(Bool->d7->Prop),Q (lt i j) s'->cu (keyLt' κ (γp zc)<|ks.getD j zc) Q (λ_ _=>False) s')/\
   ∀(p:v_ 0)(h':e_)(c:Nat),p.Perm (α2 0)->p.Pairwise (λi j=>(if b then lt i j else lt j i)=false)->(∀x o,x≠a->x≠kS->αU 0=a0 o->βJ 0=a0 o)->
   δq 0=a0 (seqObj "list" (p.map λi=>X7 zc).toArray c)->(∃o,δi 0=a0 o)->P (.done (.ret .none)) { s' with heap:=h'}):
  cu (ksk_tree a f b) P E s:=by
 let ha:a<((s).heap.objs.size):=wt ho;let w1:=yj s.heap a<|zy λ_=>(#[]:y_ 0);obtain⟨e1,ho1⟩:∃e1,(Xb<|zy λ_=>(#[]:y_ 0)).get? a=a0 (seqObj "list" #[] e1):=⟨_,get?_update_seq ho λ_=>#[]⟩;unfold ksk_tree;refine vy (listItems_at ho rfl<|vy<|listUpdate_at ho rfl ?_ (by rw[w6,Uu];omega)<|zk _);refine vy (seqEpoch_at ho1 rfl<|vy<|wpAny_newTuple ?_ (by change vs.length<=_;rw[Uu];omega));refine vy<|wpAny_newList (Io ?_)<|zk _;let ig:((Xb<|zy λ_=>(#[]:y_ 0)).push<|seqObj "tuple" vs.toArray 0).objs.size=((s).heap.objs.size)+1:=by rw[size_push',Heap.size_update]
 let J0:=h0 ((Xb<|zy λ_=>(#[]:y_ 0)).push<|seqObj "tuple" vs.toArray 0).objs.size e1 (((Xb<|zy λ_=>(#[]:y_ 0)).push<|seqObj "tuple" vs.toArray 0).push<|seqObj "list" #[] 0)
  (λx o hx q=>W4<|v7 _<|(w1.2 x hx).trans q) (by rw[ig];show Nat.le_succ _) (W4<|v7 _ ho1) (XO rfl)
 change cu (ksk_rest a f b vs.toArray e1<|.ref ((Xb<|zy λ_=>(#[]:y_ 0)).push<|seqObj "tuple" vs.toArray 0).objs.size) P E {s with heap:=((Xb<|zy λ_=>(#[]:y_ 0)).push<|seqObj "tuple" vs.toArray 0).push (seqObj "list" #[] 0)}
 generalize ((Xb<|zy λ_=>(#[]:y_ 0)).push<|seqObj "tuple" vs.toArray 0).objs.size=kS at J0
 revert J0
 generalize ({s with heap:=((Xb<|zy λ_=>(#[]:y_ 0)).push<|seqObj "tuple" vs.toArray 0).push (seqObj "list" #[] 0)}:d7)=s0;intro J0;unfold ksk_rest;refine vy<|WE ?_
 first
  |rw[List.forIn_toArray]
  |(rw[<-Array.forIn_toList];simp only[List.toList_toArray])
 refine vy<|ksk_fold (λi s'=>∃ks e,ks.length=i/\βW s') vs 0 s0 ⟨[],0,rfl,J0⟩ ?step ?done
 case step=>
  rintro j x s' hx ⟨ks,e,hl,hJ⟩;let hj:j<vs.length:=(vz.mp hx).1;let i5:ks.length=j:=⋯;refine vy (U3<|U8 (turn kS e1 ks e s' x (by rw[i5];show hx) hJ) (λv da q=>?_) λ_ _ z=>z.elim);let⟨gk,vt⟩:=q
  try dsimp only
  let w2:=yj da.heap kS (zy (·.push v));obtain⟨c2,ik⟩:∃c2,(da.heap.update kS (zy (·.push v))).get? kS=a0 (seqObj "list" (ks.toArray.push v) c2):=⟨_,get?_update_seq gk (·.push v)⟩;refine vy (listUpdate_at gk rfl ?_ (by rw[w6,Uu];omega)<|yd (Nat.le_of_eq<|Array.size_push ..) (by rw[w6,Uu];omega));refine v8 ⟨rfl,ks++[v],c2,by simp;omega,vt _ c2 w2 ?_⟩;rw[ik];simp
 case done=>
  rintro s' ⟨ks,e,hl,hJ⟩;let i5:ks.length=vs.length:=⋯;let⟨iy,ga,gk⟩:=en kS e1 ks e s' hJ;let⟨lt,tr,as,hk,e7,h⟩:=fin kS e1 ks e s' i5 hJ
  try dsimp only
  refine vy<|listItems_at gk rfl ?_;show SQ (κ:=κ) lt i5 fi iy tr as gk ga hk e7 h
open PySem.SeqAt
inductive PV where
 |non|bl (b:Bool)|int (i:Int)|str (x:Str)|tup (xs:i_ PV)|ref (n:Nat)|ty (n:String)|fl (xs:i_ PV)
mutual
def PV.beq:PV->PV->Bool
 |.non,.non=>true
 |.bl a,.bl b=>a == b
 |.int a,.int b=>a == b
 |.str a,.str b=>a == b
 |.tup a,.tup b=>PV.beqs a b
 |.ref a,.ref b=>a == b
 |.ty a,.ty b=>a == b
 |.fl a,.fl b=>PV.beqs a b
 |_,_=>false
def PV.beqs:x_ 0->x_ 0->Bool
 |[],[]=>true
 |x::xs,y::ys=>δL y&&PV.beqs xs ys
 |_,_=>false
end
mutual
theorem PV.beq_self:∀x:PV,δL x=true
 |.non=>rfl
 |.bl a=>Y9 0
 |.int a=>Y9 0
 |.str a=>Y9 0
 |.tup a=>PV.beqs_self a
 |.ref a=>Y9 0
 |.ty a=>Y9 0
 |.fl a=>PV.beqs_self a
theorem PV.beqs_self:∀x:x_ 0,PV.beqs x x=true
 |[]=>rfl
 |x::xs=>Wu.mpr ⟨PV.beq_self x,PV.beqs_self xs⟩
end
mutual
theorem PV.beq_eq:∀{x y:PV},δL y=true->x=y
 |.non,y,h=>by cases y <;> first|rfl|exact Xk xh
 |.bl a,y,h=>by cases y <;> first|exact Xk xh|exact congrArg PV.bl (eq_of_beq<|show(a == _)=true from h)
 |.int a,y,h=>by cases y <;> first|exact Xk xh|exact congrArg PV.int (eq_of_beq<|show(a == _)=true from h)
 |.str a,y,h=>by cases y <;> first|exact Xk xh|exact congrArg PV.str (eq_of_beq<|show(a == _)=true from h)
 |.tup a,y,h=>by cases y <;> first|exact Xk xh|exact congrArg PV.tup (PV.beqs_eq h)
 |.ref a,y,h=>by cases y <;> first|exact Xk xh|exact congrArg PV.ref (eq_of_beq<|show(a == _)=true from h)
 |.ty a,y,h=>by cases y <;> first|exact Xk xh|exact congrArg PV.ty (eq_of_beq<|show(a == _)=true from h)
 |.fl a,y,h=>by cases y <;> first|exact Xk xh|exact congrArg PV.fl (PV.beqs_eq h)
theorem PV.beqs_eq:∀{x y:x_ 0},PV.beqs x y=true->x=y
 |[],y,h=>by cases y <;> first|rfl|exact Xk xh
 |x::xs,y,h=>by
  cases y with
  |nil=>exact Xk xh
  |cons y ys=>
   let h:=Wu.mp (show(δL y&&PV.beqs xs ys)=true from h)
   rw[PV.beq_eq h.1,PV.beqs_eq h.2]
end
instance:DecidableEq PV:=λx y=>match h:δL y with
 |true=>isTrue (PV.beq_eq h)
 |false=>isFalse λe=>by rw[e,PV.beq_self]at h;cases h
abbrev PV.ky:Nat->PV->Bool
 |_,.int _=>true
 |_,.str _=>true
 |n+1,.tup xs=>xs.all (PV.ky n)
 |_,_=>false
section
variable(w:fI)
mutual
def hsh:PV->Int
 |.int i=>N5 w (.inl i)
 |.str x=>N5 w (.inr x)
 |.tup xs=>reduceHash (Us<|tF xs)
 |_=>0
def tF:x_ 0->Zg 0
 |[]=>[]
 |x::xs=>hsh x::tF xs
end
end
mutual
def drw:PV->Nat
 |.tup xs=>BN xs+1
 |_=>1
def BN:x_ 0->Nat
 |[]=>0
 |x::xs=>drw x+BN xs
end
mutual
def HR(h:e_):PV->d6->Prop
 |.int i,v=>∃t,v=.int i t
 |.str x,v=>∃t,v=.str x t
 |.tup ps,v=>∃a its,v=.ref a/\βl its.toArray/\βm its
 |_,_=>False
def HRs(h:e_):x_ 0->Xu 0->Prop
 |[],[]=>True
 |p::ps,v::vs=>HR h p v/\βm vs
 |[],_::_=>False
 |_::_,[]=>False
end
def HRs.length{h:e_}:∀{ps:x_ 0}{vs:Xu 0},βm vs->ps.length=vs.length
 |[],[],_=>rfl
 |_::_,_::_,r=>congrArg _ (HRs.length r.2)
 |[],_::_,r=>r.elim
 |_::_,[],r=>r.elim
def HRs.at{h:e_}:∀{ps:x_ 0}{vs:Xu 0}{j:Nat}{p:PV},βm vs->ps[j]?=a0 p->∃v,vs[j]?=a0 v/\HR h p v
 |[],[],_,_,_,e=>by simp at e
 |q::_,v::_,0,p,r,e=>by
  have:q=p:=by simpa using e
  subst this;show⟨v,rfl,r.1⟩
 |_::ps,_::vs,j+1,p,r,e=>by
  let⟨v,H,z⟩:=HRs.at r.2<|cA e;show⟨v,cA H,z⟩
 |[],_::_,_,_,r,_=>r.elim
 |_::_,[],_,_,r,_=>r.elim
def FW{h:e_}{x y:y_ 0}(p:βl x)(q:βl y):x=y:=by let⟨o,O,_,n,D⟩:=p;let⟨z,H,_,N,d⟩:=q;obtain rfl:o=z:=yi<|O.symm.trans H;rw[D]at d;injection d
mutual
theorem HR.one{h:e_}:∀{p q:PV}{v:d6},HR h p v->HR h q v->p=q
 |.int i,q,v,r,r'=>by
  let⟨t,rfl⟩:=r;cases q with
  |int j=>let⟨t',e⟩:=r';injection e with e;rw[e]
  |str j=>let⟨t',e⟩:=r';cases e
  |tup j=>let⟨_,_,e,_⟩:=r';cases e
  |_=>exact r'.elim
 |.str i,q,v,r,r'=>by
  let⟨t,rfl⟩:=r;cases q with
  |int j=>let⟨t',e⟩:=r';cases e
  |str j=>let⟨t',e⟩:=r';injection e with e;rw[e]
  |tup j=>let⟨_,_,e,_⟩:=r';cases e
  |_=>exact r'.elim
 |.tup ps,q,v,r,r'=>by
  let⟨a,its,rfl,p,rs⟩:=r;cases q with
  |int j=>let⟨t',e⟩:=r';cases e
  |str j=>let⟨t',e⟩:=r';cases e
  |tup qs=>
   let⟨b,ay,e,p',t7⟩:=r';cases e
   have:its=ay:=by simpa using αp (FW p p')
   subst this;rw[HRs.one rs t7]
  |_=>exact r'.elim
 |.non,_,_,r,_=>r.elim
 |.bl _,_,_,r,_=>r.elim
 |.ref _,_,_,r,_=>r.elim
 |.ty _,_,_,r,_=>r.elim
 |.fl _,_,_,r,_=>r.elim
theorem HRs.one{h:e_}:∀{ps qs:x_ 0}{vs:Xu 0},βm vs->HRs h qs vs->ps=qs
 |[],[],[],_,_=>rfl
 |p::ps,q::qs,v::vs,r,r'=>by rw[HR.one r.1 r'.1,HRs.one r.2 r'.2]
 |[],_::_,[],_,r=>r.elim
 |[],_,_::_,r,_=>r.elim
 |_::_,_,[],r,_=>r.elim
 |_::_,[],_::_,_,r=>r.elim
end
def Do{h:e_}{d:d8}{o:Obj}{es ep}{x:y_ 0}(p:βl x)(O:h.get? d=a0 o)(D:o.data=.dict es ep)(s:U9 d h h'):IsTup h' a x:=by
 let⟨q,H,c,n,t⟩:=p;let e:a≠d:=by rintro rfl;obtain rfl:q=o:=yi<|H.symm.trans O;rw[D]at t;cases t
 show⟨q,(s.2 a e).trans H,c,n,t⟩
mutual
theorem HR.keep{h h':e_}(k:∀a x,βl x->IsTup h' a x):∀{p:PV}{v:d6},HR h p v->HR h' p v
 |.int i,v,r=>r
 |.str i,v,r=>r
 |.tup ps,v,⟨a,its,e,p,rs⟩=>⟨a,its,e,A5 p,HRs.keep k rs⟩
 |.non,_,r=>r.elim
 |.bl _,_,r=>r.elim
 |.ref _,_,r=>r.elim
 |.ty _,_,r=>r.elim
 |.fl _,_,r=>r.elim
theorem HRs.keep{h h':e_}(k:∀a x,βl x->IsTup h' a x):∀{ps:x_ 0}{vs:Xu 0},βm vs->HRs h' ps vs
 |[],[],_=>trivial
 |_::_,_::_,r=>⟨HR.keep k r.1,HRs.keep k r.2⟩
 |[],_::_,r=>r.elim
 |_::_,[],r=>r.elim
end
def Hw:∀(n:Nat){A:d_}{E:(d6->d7->Prop)}{s:d7}{p:PV}{v:d6}{Q:(Int->d7->Prop)},p.ky n=true->A.units+n<cLine->z_ p v->Q (hsh w p) { s with toks:=s.toks+drw p}->
  cu (pyHash v) Q E s:=by
 intro n
 induction n with
 |zero=>
  intro A E s p v Q k U r h;cases p with
  |int i=>let⟨t,rfl⟩:=r;show γ0 0
  |str i=>let⟨t,rfl⟩:=r;show γ1 0
  |_=>cases k
 |succ n I=>
  intro A E s p v Q k U r h;cases p with
  |int i=>let⟨t,rfl⟩:=r;show γ0 0
  |str i=>let⟨t,rfl⟩:=r;show γ1 0
  |tup P=>
   let⟨a,Y,rfl,⟨o,O,c,m,d⟩,W⟩:=r;let T:s.TypeIs (.ref a) "tuple" := ⟨o,O,c⟩;unfold pyHash;unfold pyHashByItsType;refine vy (wpAny_cRoomFor_or (.inr<|show A.units<cLine by omega) (vy<|VY T F.slot_tuple_hash.lookup ?_));refine vy (VY T F.slot_tuple_hash.lookup<|show W0 _ Q E s from ?_)
   refine vy (wpAny_callSpecialIfBoundUnlessNone?_slot T F.slot_tuple_hash<|zd F.slot_tuple_hash T F.entry_tuple_hash (show W0 (Wt (.ref a) >>= _) _ _ s from ?_) (F.args_tuple_hash_1 _))
   refine vy<|wpAny_tupleItemsOf O d<|vy ?_;rw[<-Array.forIn_toList];refine Zw (λe (b:Array Int) S=>∃left,αF left e/\(∀q∈left,q.ky n=true)/\b.toList++tF w left=tF w P/\S.heap=s.heap/\S={ s with toks:=S.toks}/\S.toks+BN left=s.toks+BN P) _ ?turn ?stop _ _ ⟨P,W,(xi.mp k),rfl,rfl,rfl,rfl⟩
   case turn=>
    rintro x e b S ⟨left,l,K,B,u,j,g⟩;cases left with
    |nil=>exact l.elim
    |cons q left=>
     let X:HR S.heap q x:=by rw[u];show l.1
     refine vy (I (K q wa) (show A.units+1+n<cLine by omega) X (v8 ?_));refine⟨left,l.2,λz Z=>K z<|wb _ Z,?_,u,?_,?_⟩
     ·rw[<-B];simp[tF]
     ·rw[j]
     ·rw[<-g]
      change S.toks+drw q+BN left=S.toks+(drw q+BN left)
      omega
   case stop=>
    rintro b S ⟨left,l,K,B,u,j,g⟩;cases left with
    |cons q left=>exact l.elim
    |nil=>
     let y:b.toList=tF w P:=by rw[<-B];simp[tF]
     let f:S.toks=s.toks+BN P:=g
     change W0 (retInt<|Us b.toList) _ _ _
     rw[y,j];refine wpAny_ret_mkInt ?_
     change W0 (if(decide (-(2:Int) ^ 63<=Us (tF w P))&&decide (Us (tF w P)<2 ^ 63))=true then _ else _) Q E _
     let H:Q (reduceHash<|Us<|tF w P) { s with toks:=s.toks+(BN P+1)}:=h;unfold reduceHash at H;rw[f];by_cases R:(decide (-(2:Int) ^ 63<=Us (tF w P))&&decide (Us (tF w P)<2 ^ 63))=true
     ·rw[if_pos R]at H⊢;show v8 (by simpa[WI] using H)
     ·rw[if_neg R]at H⊢;show vy (WE<|v8<|by simpa[WI] using H)
  |_=>cases k
def Dp:∀(n:Nat){A:d_}{s:d7}{p q:PV}{v u:d6},p.ky n=true->q.ky n=true->A.units+n<cLine->z_ p v->z_ q u->RcAt A s v u (decide (p=q)):=by
 intro n
 induction n with
 |zero=>
  intro A s p q v u g Q C r R;cases p with
  |int i=>
   let⟨t,rfl⟩:=r;cases q with
   |int j=>let⟨T,rfl⟩:=R;have:=RcAt.int_int (A:=A) (s:=s) i t j T;rwa[show decide (PV.int i=PV.int j)=(i == j) by simp[Vm]]
   |str j=>let⟨T,rfl⟩:=R;show RcAt.int_str i t j T
   |_=>cases Q
  |str i=>
   let⟨t,rfl⟩:=r;cases q with
   |int j=>let⟨T,rfl⟩:=R;show RcAt.str_int i t j T
   |str j=>let⟨T,rfl⟩:=R;have:=RcAt.str_str (A:=A) (s:=s) i t j T;rwa[show decide (PV.str i=PV.str j)=(i == j) by simp[Vm]]
   |_=>cases Q
  |_=>cases g
 |succ n B=>
  intro A s p q v u g Q C r R;cases p with
  |int i=>
   let⟨t,rfl⟩:=r;cases q with
   |int j=>let⟨T,rfl⟩:=R;have:=RcAt.int_int (A:=A) (s:=s) i t j T;rwa[show decide (PV.int i=PV.int j)=(i == j) by simp[Vm]]
   |str j=>let⟨T,rfl⟩:=R;show RcAt.int_str i t j T
   |tup js=>let⟨b,S,rfl,c,_⟩:=R;show RcAt.int_tuple i t c ⋯
   |_=>cases Q
  |str i=>
   let⟨t,rfl⟩:=r;cases q with
   |int j=>let⟨T,rfl⟩:=R;show RcAt.str_int i t j T
   |str j=>let⟨T,rfl⟩:=R;have:=RcAt.str_str (A:=A) (s:=s) i t j T;rwa[show decide (PV.str i=PV.str j)=(i == j) by simp[Vm]]
   |tup js=>let⟨b,S,rfl,c,_⟩:=R;show RcAt.str_tuple i t c ⋯
   |_=>cases Q
  |tup P=>
   let⟨a,S,rfl,Z,V⟩:=r;cases q with
   |int j=>let⟨T,rfl⟩:=R;show RcAt.tuple_int j T Z ⋯
   |str j=>let⟨T,rfl⟩:=R;show RcAt.tuple_str j T Z ⋯
   |tup w=>
    let⟨b,I,rfl,tb,k⟩:=R;let l1:=V.length;let l2:=k.length;let K:=RcAt.tuples (A:=A) (e:=λj=>match P[j]?,w[j]? with|some x,a0 y=>decide (x=y)|_,_=>false) Z tb ⋯ (λj J F=>by
     let o:j<P.length:=by simp at J;omega
     let m:j<w.length:=by simp at F;omega
     let G:P[j]?=a0 P[j]:=by simp[o]
     let W:w[j]?=a0 w[j]:=by simp[m]
     let⟨xu,X,h⟩:=V.at G;let⟨yu,Y,H⟩:=k.at W;let E:S.toArray[j]=xu:=by simpa using(vz.mp X).2
     let N:I.toArray[j]=yu:=by simpa using(vz.mp Y).2
     rw[E,N];simp only[G,W];refine pC (B ((xi.mp g) _<|xt o) ((xi.mp Q) _<|xt m) (show A.units+1+n<cLine by omega) h H) (λM=>?_) (λf t e=>?_)
     ·subst M;rw[HR.one h H];show decide_eq_true rfl
     ·subst e;generalize P[j]=z at h;cases z with
      |int i=>let⟨_,e⟩:=h;cases e
      |str i=>let⟨_,e⟩:=h;cases e
      |tup i=>let⟨_,_,e,_⟩:=h;cases e
      |_=>exact h.elim)
    let sz:((zo<|min S.toArray.size I.toArray.size).all (λj=>match P[j]?,w[j]? with|some x,a0 y=>decide (x=y)|_,_=>false)&&S.toArray.size == I.toArray.size)=decide (PV.tup P=PV.tup w):=by
     let U:S.toArray.size=P.length:=by simp;omega
     let O:I.toArray.size=w.length:=by simp;omega
     rw[U,O,Up];simp only[yq,xi,Vu,beq_iff_eq,decide_eq_true_eq,PV.tup.injEq];constructor
     ·rintro⟨l,L⟩;apply List.ext_getElem L;intro i D d;have:=l i ⋯;simpa[D,d] using this
     ·rintro rfl;refine⟨λx hx=>?_,rfl⟩;have:x<P.length:=⋯;simp[this]
    rw[<-sz];show K
   |_=>cases Q
  |_=>cases g
variable{p:PV}
def HR.noflt{h:e_}(r:HR h p v):∀f t,v≠.float f t:=λf t e=>by
 subst e;cases p with
 |int i=>let⟨_,e⟩:=r;cases e
 |str i=>let⟨_,e⟩:=r;cases e
 |tup i=>let⟨_,_,e,_⟩:=r;cases e
 |_=>exact r.elim
def Ah{q:PV}(h:p.ky n=true)(H:q.ky n=true)(U:A.units+n<cLine)(r:z_ p v)(r':z_ q u):Zv v u (decide (p=q)):=pC (Dp n h H U r r') (λe=>by subst e;rw[HR.one r r'];show decide_eq_true rfl) r.noflt
def FX:∀(n m){A:d_}{E:(d6->d7->Prop)}{s:d7}{p:PV}{v:d6}{Q:(Bool->d7->Prop)},p.ky n=true->n<=m->z_ p v->Q true s->cu (eqIsQuiet m v) Q E s:=by
 intro n
 induction n with
 |zero=>
  intro m A E s p v Q k M r h;cases p with
  |int i=>let⟨t,rfl⟩:=r;rw[Zb rfl];show v8 h
  |str i=>let⟨t,rfl⟩:=r;rw[Zb rfl];show v8 h
  |_=>cases k
 |succ n I=>
  intro m A E s p v Q k M r h;cases p with
  |int i=>let⟨t,rfl⟩:=r;rw[Zb rfl];show v8 h
  |str i=>let⟨t,rfl⟩:=r;rw[Zb rfl];show v8 h
  |tup P=>
   let⟨a,y,rfl,⟨o,O,c,u,d⟩,x⟩:=r;let H:=xi.mp k;let T:s.TypeIs (.ref a) "tuple" := ⟨o,O,c⟩;obtain⟨m,rfl⟩:∃j,m=j+1:=⟨m-1,⋯⟩;unfold eqIsQuiet;refine vy (VY T F.slot_tuple_eq.lookup<|show W0 (isInstance _ _ >>= _) _ _ s from ?_)
   refine vy<|VF T isSubtype_tuple_tuple ?_;simp only[Bool.not_true];refine vy (Ur O d<|vy<|show W0 (forIn _ _ _) _ _ s from ?_);rw[<-Array.forIn_toList]
   refine Zw (λe r S=>r.1=a7/\S=s/\∃left,HRs _ left e/\∀q∈left,q.ky n=true) _ ?_ ?_ _ _ ⟨rfl,rfl,P,x,H⟩
   ·rintro v e r S ⟨R,rfl,left,l,K⟩;cases left with
    |nil=>exact l.elim
    |cons q left=>refine vy<|I m (K q wa) ⋯ l.1 ?_;simp[Bool.not_true];show v8 ⟨rfl,rfl,left,l.2,λz Z=>K z (YI Z)⟩
   ·rintro⟨g,f⟩ S ⟨R,rfl,_⟩;simp only at R;subst R;show v8 h
  |_=>cases k
abbrev BO(prog:f_)(w:fI):γt PV where
 is:=λh p a=>p.ky 6=true/\HR h p (.ref a)
 hash:=hsh w
 draws:=drw
 room:=λA=>A.units+6<cLine
 inj:=λx y=>HR.one x.2 y.2
 keeps:=λx ho hd hs=>⟨x.1,HR.keep (λa it p=>Do p ho hd hs) x.2⟩
 pyHash:=λhu x h=>Hw 6 x.1 hu x.2 h
 eqBool:=λhu x y h=>Ah x.1 y.1 hu x.2 y.2 _ _ _ _ h
 quiet:=λx h=>FX 6 8 x.1 ⋯ x.2 h
abbrev dDO(w:fI)(a:d8)(ks:i_ (PV×d8×V)):HO:=.ext λh=>ks.length<=w9/\(a == Uy)=false/\∃xs:i_ (PV×d8×d6),
 Paired (λ(p:PV×d8×V)(q:PV×d8×d6)=>p.1=q.1/\p.2.1=q.2.1/\RelV p.2.2 q.2.2) ks xs/\
 ∃o es ep,Y6 0=a0 o/\o.ExactDict/\o.data=.dict es ep/\es.toList=xs.map (λx=>(⟨hsh w x.1,.ref x.2.1,x.2.2⟩:UU))/\(xs.map (·.1)).Nodup
abbrev BP(kd:Nat)(v d:d8):HO:=.ext λh=>match kd with
 |0=>h.IsItemsView v d
 |1=>h.IsValuesView v d
 |_=>∃o,h.get? v=a0 o/\o.cls=.type "dict_keys" /\ o.data=.fields #[.ref d]
inductive MO where
 |lst (xs:i_ PV)
 |dK (kvs:i_ (Key×PV))
 |ins (C:Str) (fs:i_ (Str×PV))
 |dD (kvs:i_ (PV×PV))
 |vw (kd d:Nat)
 |fz (o:MO)
@[reducible]noncomputable def PH:=i_ MO
@[reducible]noncomputable def Ev:=i_<|jh PV
structure PX where
 cls:Str
 fs:i_ (Str×PV)
inductive Rs(α:Type) where
 |ok (a:α) (h:PH)
 |exc (x:PX) (h:PH)
 |bad
inductive Fl where
 |nx (δ:Ev) (h:PH)
 |rt (p:PV) (h:PH)
 |bk (δ:Ev) (h:PH)
 |ct (δ:Ev) (h:PH)
 |exc (x:PX) (h:PH)
 |bad
@[reducible]noncomputable def Me:=Ev->PH->W_ 0
@[reducible]noncomputable def Ms:=Ev->PH->Fl
@[reducible]noncomputable def Fn:=x_ 0->PH->W_ 0
abbrev Rs.bind{α β:Type}(r:Rs α)(f:α->PH->Rs β):Rs β:=match r with
 |.ok a h=>f a h
 |.exc x h=>.exc x h
 |.bad=>.bad
@[simp]theorem Rs.bind_ok{α β:Type}(a:α)(h:PH)(f:α->PH->Rs β):(Rs.ok a h).bind f=f a h:=rfl
@[simp]theorem Rs.bind_exc{α β:Type}(x:PX)(h:PH)(f:α->PH->Rs β):(Rs.exc x h:Rs α).bind f=.exc x h:=rfl
@[simp]theorem Rs.bind_bad{α β:Type}(f:α->PH->Rs β):(Rs.bad:Rs α).bind f=.bad:=rfl
structure MC where
 K:wc
 cl:Str->jh d8
 bs:i_ Str
 ex:i_ d8->Hp->PX->Prop
 w:fI
abbrev SqF(K:wc)(H:Hp)(a:d8)(xs:i_ V):Prop:=
 (∃o,H a=a0 (.frz o<|.lst xs))\/
  ∃(o:Obj)(its:y_ 0)(n:Nat),βZ 0=a0 o/\o.cls=.type "list" /\ o.dict=a7/\o.data=.seq its n/\its.size<=w9/\Yv its.toList
def SqF.sq{xs:i_ V}(h:SqF K H a xs):W9 a xs:=by
 rcases h with⟨o,h⟩|h
 ·show .inl (.inr ⟨o,h⟩)
 ·show .inr h
abbrev Kp(H H':Hp):Prop:=mL H H'/\∀a o u,H a=a0 (.frz o u)->H' a=a0 (.frz o u)
def Kp.refl(H:Hp):L_ H:=⟨mL.refl H,λ_ _ _ h=>h⟩
def Kp.trans(a:L_ H1)(b:Kp H1 H2):L_ H2:=⟨a.1.trans b.1,λc o u h=>b.2 c o u<|a.2 c o u h⟩
def Kp.same(s:wY H H'):L_ H':=⟨mL.same s,λ_ _ _ h=>s _ _ h⟩
def Kp.new{o:HO}(h:H a=a7):L_ (YG o):=Kp.same<|wY.upd h
def Kp.upd{p:d8}{o:HO}(h:uV (H p)):L_ (t_ p o):=⟨mL.upd h,λa b u q=>by
 let n:a≠p:=by rintro rfl;rw[q]at h;show h
 rw[aF n];show q⟩
def Kp.lst{H:Hp}{p:d8}{o:HO}{xs:i_ V}(h:H p=a0 (.lst xs)):L_ (_L.upd H p o):=Kp.upd (by rw[h];trivial)
def Kp.dK{H:Hp}{p:d8}{o:HO}{xs:i_ (Key×V)}(h:H p=a0 (.dK xs)):L_ (_L.upd H p o):=Kp.upd (by rw[h];trivial)
def Kp.sq{xs:i_ V}(t:L_ H')(h:WW a xs):SqT K H' a xs:=t.1.sq h
def Kp.sf{xs:i_ V}(t:L_ H')(h:SqF K H a xs):SqF K H' a xs:=by
 rcases h with⟨o,h⟩|h
 ·show .inl ⟨o,t.2 _ _ _ h⟩
 ·show .inr h
section
variable(C:MC)(φ:i_ d8)(H:Hp)
mutual
def RV:PV->V->Prop
 |.non,v=>v=.non
 |.bl b,v=>v=.bl b
 |.int i,v=>v=.int i
 |.str x,v=>v=.str x
 |.ty n,v=>v=.ty n
 |.tup ps,v=>∃a vs,v=.ref a/\SqT C.K H a vs/\RVs ps vs
 |.ref n,v=>∃a,v=.ref a/\φ[n]?=a0 a
 |.fl ps,v=>∃a vs,v=.ref a/\SqF C.K H a vs/\RVs ps vs
def RVs:x_ 0->i_ V->Prop
 |[],[]=>True
 |p::ps,v::vs=>RV p v/\RVs ps vs
 |[],_::_=>False
 |_::_,[]=>False
end
abbrev RKv{κ:Type}:i_ (κ×PV)->i_ (κ×V)->Prop:=Paired λp q=>p.1=q.1/\b6 p.2 q.2
abbrev RKd:i_ (PV×PV)->i_ (PV×d8×V)->Prop:=Paired λp q=>p.1=q.1/\p.1.ky 6=true/\b6 p.1 (.ref q.2.1)/\b6 p.2 q.2.2
abbrev RO(a:d8):MO->Prop
 |.lst ps=>∃vs,H a=a0 (.lst vs)/\c9 ps vs
 |.dK kvs=>∃ks,H a=a0 (.dK ks)/\WR kvs ks
 |.ins n fs=>∃c dx ks,C.cl n=a0 c/\H a=a0 (.ins c dx ks)/\WR fs ks
 |.dD kvs=>∃ks,H a=a0 (dDO C.w a ks)/\βQ 0
 |.vw kd d=>∃b,φ[d]?=a0 b/\H a=a0 (BP kd a b)
 |.fz (.dK kvs)=>∃ob ks,H a=a0 (.frz ob<|.dK ks)/\WR kvs ks
 |.fz (.dD kvs)=>∃ob ks,H a=a0 (.frz ob<|dDO C.w a ks)/\βQ 0
 |.fz _=>False
structure RH(h:PH):Prop where
 len:φ.length=h.length
 nd:φ.Nodup
 at':∀(n:Nat)(a:d8)(o:MO),φ[n]?=some a->h[n]?=some o->RO C φ H a o
abbrev RE(δ:Ev)(σ:St):Prop:=δ.length=σ.length/\∀(i:Nat)(p:PV),δ[i]?=a0 (a0 p)->∃v,σ[i]?=a0 (a0 v)/\Xq v
end
def dW{α:Type}{l l':ZH 0}(p:l<+:l'){a:α}(h:l[n]?=a0 a):l'[n]?=a0 a:=by let⟨t,rfl⟩:=p;have:=(vz.mp h).1;rw[xc this];show h
abbrev Kq(H H':Hp):Prop:=mL H H'/\∀a o xs,H a=a0 (.frz o<|.lst xs)->H' a=a0 (.frz o<|.lst xs)
def Kp.q(t:L_ H'):Kq H H':=⟨t.1,λa o xs h=>t.2 a o _ h⟩
def Kq.sq{xs:i_ V}(t:Kq H H')(h:WW a xs):SqT K H' a xs:=t.1.sq h
def Kq.sf{xs:i_ V}(t:Kq H H')(h:SqF K H a xs):SqF K H' a xs:=by
 rcases h with⟨o,h⟩|h
 ·show .inl ⟨o,t.2 _ _ _ h⟩
 ·show .inr h
mutual
theorem RV.monoQ(p:φ<+:φ')(t:Kq H H'):∀{x:PV}{v:V},b6 x v->γu x v
 |.non,_,h=>h
 |.bl _,_,h=>h
 |.int _,_,h=>h
 |.str _,_,h=>h
 |.ty _,_,h=>h
 |.tup _,_,⟨a,vs,e,q,r⟩=>⟨a,vs,e,t.sq q,γv t r⟩
 |.ref _,_,⟨a,e,q⟩=>⟨a,e,dW p q⟩
 |.fl _,_,⟨a,vs,e,q,r⟩=>⟨a,vs,e,t.sf q,γv t r⟩
theorem RVs.monoQ(p:φ<+:φ')(t:Kq H H'):∀{xs:x_ 0}{vs:i_ V},Xh 0->γQ xs vs
 |[],[],_=>trivial
 |_::_,_::_,⟨h,r⟩=>⟨RV.monoQ p t h,γv t r⟩
 |[],_::_,h=>h.elim
 |_::_,[],h=>h.elim
end
variable{C:MC}{φ φ':i_ d8}
def RV.mono(p:φ<+:φ')(t:L_ H'){x:PV}{v:V}(h:b6 x v):γu x v:=RV.monoQ p t.q h
variable{xs:x_ 0}
def RVs.mono(p:φ<+:φ')(t:L_ H'){vs:i_ V}(h:Xh 0):γQ xs vs:=γv t.q h
def RVs.length:∀{xs:x_ 0}{vs:i_ V},Xh 0->xs.length=vs.length
 |[],[],_=>rfl
 |_::_,_::_,⟨_,r⟩=>by simp[RVs.length r]
 |[],_::_,h=>h.elim
 |_::_,[],h=>h.elim
def RVs.get:∀{xs:x_ 0}{vs:i_ V}{i:Nat}{v:V},Xh 0->vs[i]?=a0 v->∃x,xs[i]?=a0 x/\b6 x v
 |[],[],_,_,_,e=>by simp at e
 |x::_,w::_,0,v,⟨h,_⟩,e=>by
  have:w=v:=by simpa using e
  subst this;show⟨x,rfl,h⟩
 |_::xs,_::vs,i+1,v,⟨_,r⟩,e=>by
  let⟨x,z,y⟩:=RVs.get r<|cA e;show⟨x,cA z,y⟩
 |[],_::_,_,_,h,_=>h.elim
 |_::_,[],_,_,h,_=>h.elim
def RVs.at:∀{xs:x_ 0}{vs:i_ V}{i:Nat}{x:PV},Xh 0->xs[i]?=a0 x->∃v,vs[i]?=a0 v/\b6 x v
 |[],[],_,_,_,e=>by simp at e
 |x::_,w::_,0,X,⟨h,_⟩,e=>by
  have:x=X:=by simpa using e
  subst this;show⟨w,rfl,h⟩
 |_::xs,_::vs,i+1,x,⟨_,r⟩,e=>by
  let⟨v,z,y⟩:=RVs.at r<|cA e;show⟨v,cA z,y⟩
 |[],_::_,_,_,h,_=>h.elim
 |_::_,[],_,_,h,_=>h.elim
def RVs.append:∀{xs ys:x_ 0}{vs us:i_ V},Xh 0->εf us->c9 (xs++ys) (vs++us)
 |[],_,[],_,_,h=>h
 |_::_,_,_::_,_,⟨h,r⟩,z=>⟨h,RVs.append r z⟩
 |[],_,_::_,_,h,_=>h.elim
 |_::_,_,[],_,h,_=>h.elim
def RVs.snoc{vs:i_ V}{x:PV}{v:V}(r:Xh 0)(h:b6 x v):c9 (xs++[x]) (vs++[v]):=r.append ⟨h,trivial⟩
def RVs.drop:∀{xs:x_ 0}{vs:i_ V}(n),Xh 0->c9 (xs.drop n) (vs.drop n)
 |_,_,0,h=>h
 |[],[],_+1,_=>trivial
 |_::_,_::_,n+1,⟨_,r⟩=>RVs.drop n r
 |[],_::_,_+1,h=>h.elim
 |_::_,[],_+1,h=>h.elim
def RVs.take:∀{xs:x_ 0}{vs:i_ V}(n),Xh 0->c9 (xs.take n) (vs.take n)
 |[],[],0,_=>trivial
 |_::_,_::_,0,_=>trivial
 |[],[],_+1,_=>trivial
 |_::_,_::_,n+1,⟨h,r⟩=>⟨h,RVs.take n r⟩
 |[],_::_,_,h=>h.elim
 |_::_,[],_,h=>h.elim
def RVs.set{x:PV}{v:V}(h:b6 x v):∀{xs:x_ 0}{vs:i_ V}(n),Xh 0->c9 (xs.set n x) (vs.set n v)
 |[],[],_,_=>trivial
 |_::_,_::_,0,⟨_,r⟩=>⟨h,r⟩
 |_::_,_::_,n+1,⟨q,r⟩=>⟨q,RVs.set h n r⟩
 |[],_::_,_,h=>h.elim
 |_::_,[],_,h=>h.elim
def RVs.reverse:∀{xs:x_ 0}{vs:i_ V},Xh 0->c9 xs.reverse vs.reverse
 |[],[],_=>trivial
 |_::_,_::_,⟨h,r⟩=>by simp;show(RVs.reverse r).append ⟨h,trivial⟩
 |[],_::_,h=>h.elim
 |_::_,[],h=>h.elim
def RKv.monoQ{κ:Type}(p:φ<+:φ')(t:Kq H H'){x:i_ (κ×PV)}{v:i_ (κ×V)}(h:WR x v):RKv C φ' H' x v:=δM 0 λ_ _ q=>⟨q.1,q.2.monoQ p t⟩
def RKd.monoQ(p:φ<+:φ')(t:Kq H H'){x:i_ (PV×PV)}{v:i_ (PV×d8×V)}(h:S_ x v):RKd C φ' H' x v:=δM 0 λ_ _ q=>⟨q.1,q.2.1,q.2.2.1.monoQ p t,q.2.2.2.monoQ p t⟩
def RKv.mono{κ:Type}(p:φ<+:φ')(t:L_ H'){x:i_ (κ×PV)}{v:i_ (κ×V)}(h:WR x v):RKv C φ' H' x v:=δM 0 λ_ _ q=>⟨q.1,q.2.mono p t⟩
def RKd.mono(p:φ<+:φ')(t:L_ H'){x:i_ (PV×PV)}{v:i_ (PV×d8×V)}(h:S_ x v):RKd C φ' H' x v:=δM 0 λ_ _ q=>⟨q.1,q.2.1,q.2.2.1.mono p t,q.2.2.2.mono p t⟩
variable{δ:Ev}
def RE.mono(p:φ<+:φ')(t:L_ H'){σ:St}(h:J_ 0):αJ σ:=⟨h.1,λi x e=>let ⟨v,q,r⟩:=h.2 i x e;⟨v,q,r.mono p t⟩⟩
def RE.set{σ:St}{x:PV}{v:V}(h:J_ 0)(r:b6 x v)(i):γw (γd<|a0 x) (σ.set i<|a0 v):=by
 refine⟨by rw[yo,yo];show h.1,λj p e=>?_⟩;by_cases J:i=j
 ·subst J;by_cases l:i<δ.length
  ·rw[z9 l]at e;cases e
   show⟨v,by rw[z9 (by rw[<-h.1];show l)],r⟩
  ·rw[UY (by rw[yo];omega)]at e;cases e
 ·rw[yt J]at e;rw[yt J];show h.2 j p e
variable{o:MO}
def RO.stayQ(p:φ<+:φ')(t:Kq H H')(e:H' a=H a)(h:γx o):RO C φ' H' a o:=by
 cases o with
 |lst P=>let⟨s,q,r⟩:=h;show⟨s,δN 0,βn t⟩
 |dK P=>let⟨s,q,r⟩:=h;show⟨s,δN 0,βn t⟩
 |ins n f=>let⟨c,x,k,z,q,r⟩:=h;show⟨c,x,k,z,δN 0,βn t⟩
 |dD v=>let⟨k,q,r⟩:=h;show⟨k,δN 0,βn t⟩
 |vw K d=>let⟨b,B,q⟩:=h;show⟨b,dW p B,δN 0⟩
 |fz o=>
  cases o with
  |dK v=>let⟨O,k,q,r⟩:=h;show⟨O,k,δN 0,βn t⟩
  |dD v=>let⟨O,k,q,r⟩:=h;show⟨O,k,δN 0,βn t⟩
  |_=>exact h.elim
def RO.stay(p:φ<+:φ')(t:L_ H')(e:H' a=H a)(h:γx o):RO C φ' H' a o:=h.stayQ p t.q e
def RO.some(h:γx o):∃u,H a=a0 u:=by
 cases o with
 |lst p=>let⟨v,q,r⟩:=h;show⟨_,q⟩
 |dK p=>let⟨v,q,r⟩:=h;show⟨_,q⟩
 |ins n f=>let⟨c,x,s,z,q,r⟩:=h;show⟨_,q⟩
 |dD k=>let⟨s,q,r⟩:=h;show⟨_,q⟩
 |vw K d=>let⟨b,B,q⟩:=h;show⟨_,q⟩
 |fz o=>
  cases o with
  |dK k=>let⟨O,s,q,r⟩:=h;show⟨_,q⟩
  |dD k=>let⟨O,s,q,r⟩:=h;show⟨_,q⟩
  |_=>exact h.elim
variable{h:PH}
def RH.get(r:m_ h)(e:h[n]?=a0 o):∃a,φ[n]?=a0 a/\γx o:=by
 have:n<φ.length:=by rw[r.len];show(X2 0).1
 show⟨φ[n],by simp[this],Zj _ o (by simp[this]) e⟩
def RH.tracked(r:m_ h)(e:φ[n]?=a0 a):∃u,H a=a0 u:=by
 have:n<h.length:=by rw[<-r.len];show(X2 0).1
 show(Zj a h[n] e<|by simp).some
def RH.aside(r:m_ h){o:HO}(e:H a=a7):Xl φ (YG o) h:=⟨r.len,r.nd,λn b O z y=>by let q:=Zj b O z y;let⟨u,U⟩:=q.some;show q.stay (wm) (Kp.new e)<|aF<|cP U e⟩
def RH.new(r:m_ h){u:HO}(e:H a=a7)(q:RO C (φ++[a]) (YG u) a o):Xl (φ++[a]) (YG u) (h++[o]):=by
 refine⟨by simp[r.len],?_,λn b O w v=>?_⟩
 ·rw[Vg];refine⟨r.nd,by simp,λx X y Y z=>?_⟩;rw[wx]at Y;subst Y z;let⟨n,N⟩:=List.mem_iff_getElem?.mp X;let⟨s,U⟩:=r.tracked N;rw[e]at U;cases U
 ·by_cases N:n<φ.length
  ·rw[xc N]at w;rw[xc (by rw[<-r.len];show N)]at v;let Q:=Zj b O w v;let⟨s,U⟩:=Q.some;show Q.stay (zp _ _) (Kp.new e)<|aF<|cP U e
  ·let t:n=φ.length:=by have:=(vz.mp w).1;simp at this;omega
   subst t;rw[wz<|wj _,Nat.sub_self]at w;rw[r.len,wz<|wj _,Nat.sub_self]at v;cases w
   cases v
   show q
def RH.write(r:m_ h){u:HO}(e:φ[n]?=a0 a)(t:uV (H a))(q:RO C φ (YG u) a o):Xl φ (YG u) (WY o):=by
 refine⟨by rw[yo];show r.len,r.nd,λm b O y x=>?_⟩;by_cases M:n=m
 ·subst M;rw[e]at y;cases y;let l:n<h.length:=by rw[<-r.len];show(X2 0).1
  rw[z9 l]at x;cases x
  show q
 ·rw[yt M]at x;let B:b≠a:=λz=>by subst z;show M ((List.getElem?_inj (X2 0).1 r.nd).mp<|e.trans y.symm)
  show(r.at' m b O y x).stay wm (Kp.upd t) (aF B)
section
variable(C:MC)(φ:i_ d8)(H:Hp)
abbrev post(r:W_ 0)(Q:VK):Prop:=match r with
 |.ok p h=>∀φ' v H',φ<+:φ'->L_ H'->A3 h->γu p v->Q v H'
 |.exc x h=>∀φ' H',φ<+:φ'->L_ H'->A3 h->ZT x
 |.bad=>False
abbrev bL(r:Xa 0)(Q:Bool->Hp->Prop):Prop:=match r with
 |.ok b h=>∀φ' H',φ<+:φ'->L_ H'->A3 h->Q b H'
 |.exc x h=>∀φ' H',φ<+:φ'->L_ H'->A3 h->ZT x
 |.bad=>False
abbrev postA(r:Rs (x_ 0))(Q:i_ V->Hp->Prop):Prop:=match r with
 |.ok ps h=>∀φ' vs H',φ<+:φ'->L_ H'->A3 h->γQ ps vs->Q vs H'
 |.exc x h=>∀φ' H',φ<+:φ'->L_ H'->A3 h->ZT x
 |.bad=>False
abbrev cB(r:Fl)(D:Ends):Prop:=match r with
 |.nx δ h=>∀φ' σ H',φ<+:φ'->L_ H'->A3 h->αJ σ->αQ H'
 |.rt p h=>∀φ' v H',φ<+:φ'->L_ H'->A3 h->γu p v->D.rt v H'
 |.bk δ h=>∀φ' σ H',φ<+:φ'->L_ H'->A3 h->αJ σ->D.bk σ H'
 |.ct δ h=>∀φ' σ H',φ<+:φ'->L_ H'->A3 h->αJ σ->D.ct σ H'
 |.exc x h=>∀φ' H',φ<+:φ'->L_ H'->A3 h->ZT x
 |.bad=>False
end
variable{φ1:i_ d8}
def post.weak{r:W_ 0}{Q:VK}(p:φ<+:φ1)(t:L_ H1)(h:p_ r Q):XY φ1 H1 r Q:=by
 cases r with
 |ok a z=>exact λy v x P T=>δO (ZJ 0) (ZK 0)
 |exc a z=>exact λy x P T=>h y x (ZJ 0) (ZK 0)
 |bad=>exact h
def bL.weak{r:Xa 0}{Q:Bool->Hp->Prop}(p:φ<+:φ1)(t:L_ H1)(h:Xm r Q):bL C φ1 H1 r Q:=by
 cases r with
 |ok a z=>exact λy x P T=>h y x (ZJ 0) (ZK 0)
 |exc a z=>exact λy x P T=>h y x (ZJ 0) (ZK 0)
 |bad=>exact h
variable{r:Rs (x_ 0)}
def postA.weak{Q:i_ V->Hp->Prop}(p:φ<+:φ1)(t:L_ H1)(h:XC r Q):postA C φ1 H1 r Q:=by
 cases r with
 |ok a z=>exact λy v x P T=>δO (ZJ 0) (ZK 0)
 |exc a z=>exact λy x P T=>h y x (ZJ 0) (ZK 0)
 |bad=>exact h
def cB.weak{r:Fl}{D:Ends}(p:φ<+:φ1)(t:L_ H1)(h:Ys r D):cB C φ1 H1 r D:=by
 cases r with
 |nx a z=>exact λy v x P T=>δO (ZJ 0) (ZK 0)
 |rt a z=>exact λy v x P T=>δO (ZJ 0) (ZK 0)
 |bk a z=>exact λy v x P T=>δO (ZJ 0) (ZK 0)
 |ct a z=>exact λy v x P T=>δO (ZJ 0) (ZK 0)
 |exc a z=>exact λy x P T=>h y x (ZJ 0) (ZK 0)
 |bad=>exact h
def post.imp{r:W_ 0}{Q Q':VK}(h:p_ r Q)(i:∀v y,Q v y->Q' v y):p_ r Q':=by
 cases r with
 |ok a z=>exact λx v y p t R V=>i v y (h x v y p t R V)
 |exc a z=>exact h
 |bad=>exact h
def post.bind{r:W_ 0}{f:PV->PH->W_ 0}{Q:VK}(h:p_ (β4 0) Q):p_ r λv y=>∃z p u,φ<+:z/\L_ y/\Xl z y u/\RV C z y p v/\XY z y (f p u) Q:=by
 cases r with
 |ok a w=>exact λx v s p t R V=>⟨x,a,w,p,t,R,V,Z_ h⟩
 |exc a w=>exact h
 |bad=>exact h
def post.bindB{r:W_ 0}{f:PV->PH->Xa 0}{Q:Bool->Hp->Prop}(h:Xm (β4 0) Q):p_ r λv w=>∃x p y,φ<+:x/\L_ w/\Xl x w y/\RV C x w p v/\bL C x w (f p y) Q:=by
 cases r with
 |ok a z=>exact λu v s p t R V=>⟨u,a,z,p,t,R,V,bL.weak p t h⟩
 |exc a z=>exact h
 |bad=>exact h
def bL.bind{r:Xa 0}{f:Bool->PH->W_ 0}{Q:VK}(h:p_ (β4 0) Q):Xm r λb w=>∃x y,φ<+:x/\L_ w/\Xl x w y/\XY x w (f b y) Q:=by
 cases r with
 |ok a z=>exact λv u p t R=>⟨v,z,p,t,R,Z_ h⟩
 |exc a z=>exact h
 |bad=>exact h
def bL.bindB{r:Xa 0}{f:Bool->PH->Xa 0}{Q:Bool->Hp->Prop}(h:Xm (β4 0) Q):Xm r λb w=>∃x y,φ<+:x/\L_ w/\Xl x w y/\bL C x w (f b y) Q:=by
 cases r with
 |ok a z=>exact λv u p t R=>⟨v,z,p,t,R,bL.weak p t h⟩
 |exc a z=>exact h
 |bad=>exact h
def postA.bind{f:x_ 0->PH->W_ 0}{Q:VK}(h:p_ (β4 0) Q):XC r λS w=>∃x s y,φ<+:x/\L_ w/\Xl x w y/\Zd x w s S/\XY x w (f s y) Q:=by
 cases r with
 |ok a z=>exact λu v q p t R V=>⟨u,a,z,p,t,R,V,Z_ h⟩
 |exc a z=>exact h
 |bad=>exact h
def postA.bindA{f:x_ 0->PH->Rs (x_ 0)}{Q:i_ V->Hp->Prop}(h:XC (β4 0) Q):XC r λS u=>∃w s y,φ<+:w/\L_ u/\Xl w u y/\Zd w u s S/\postA C w u (f s y) Q:=by
 cases r with
 |ok a z=>exact λq v o p t R x=>⟨q,a,z,p,t,R,x,postA.weak p t h⟩
 |exc a z=>exact h
 |bad=>exact h
def post.bindA{r:W_ 0}{f:PV->PH->Rs (x_ 0)}{Q:i_ V->Hp->Prop}(h:XC (β4 0) Q):p_ r λv u=>∃w p y,φ<+:w/\L_ u/\Xl w u y/\RV C w u p v/\postA C w u (f p y) Q:=by
 cases r with
 |ok a z=>exact λs v q p t R x=>⟨s,a,z,p,t,R,x,postA.weak p t h⟩
 |exc a z=>exact h
 |bad=>exact h
def post.val{v:V}{Q:VK}(q:p_ (.ok p h) Q)(r:m_ h)(R:Xq v):Q v H:=q φ v H wm (δP 0) r R
structure Cxt(C:MC)(k:Nat)(X:Cx):Prop where
 K:X.K=C.K
 calm:X.calm=true
 room:dX k X.A
 bn:∀x∈C.bs,X.mg x=none
 w:X.w=C.w
def Cxt.hu{k:Nat}(c:vn X):X.A.units+1<cLine:=Q5 c.room
def Cxt.hu64{k:Nat}(c:vn X):X.A.units+64<cLine:=c.room.units
def Cxt.comp{k:Nat}(c:vn X)(sc)(N)(a)(fp)(s)(H):vn (Am N a fp s H):=⟨c.K,c.calm,c.room,c.bn,c.w⟩
section
variable(C:MC)
abbrev rd(m:Me):TE:=λσ H Q=>∃φ δ h,m_ h/\J_ 0/\p_ (Xn h) Q
abbrev rdB(m:Ev->PH->Xa 0):TT:=λσ H Q=>∃φ δ h,m_ h/\J_ 0/\Xm (Xn h) Q
abbrev rdA(m:Ev->PH->Rs (x_ 0)):TA:=λσ H Q=>∃φ δ h,m_ h/\J_ 0/\XC (Xn h) Q
abbrev rdS(m:Ms):TS:=λD σ H=>∃φ δ h,m_ h/\J_ 0/\Ys (Xn h) D
abbrev r2(g:PV->PV->PH->W_ 0):R2:=λx y H Q=>∃φ h p q,m_ h/\Xq x/\b6 q y/\p_ (g p q h) Q
abbrev r1(g:PV->PH->W_ 0):V->Hp->VK->Prop:=λx H Q=>∃φ h p,m_ h/\Xq x/\p_ (g p h) Q
abbrev rL(g:x_ 0->PH->W_ 0):i_ V->Hp->VK->Prop:=λxs H Q=>∃φ h ps,m_ h/\c9 ps xs/\p_ (g ps h) Q
end
variable{C:MC}{k:Nat}{X:Cx}
abbrev SE(C:MC)(k:Nat)(X:Cx)(e:g_)(m:Me):Prop:=vn X->N_ e (rd C m)
abbrev ST(C:MC)(k:Nat)(X:Cx)(e:g_)(m:Ev->PH->Xa 0):Prop:=vn X->PT X e (rdB C m)
abbrev SA(C:MC)(k:Nat)(X:Cx)(es:i_ g_)(m:Ev->PH->Rs (x_ 0)):Prop:=vn X->δx (rdA C m)
abbrev SSt(C:MC)(k:Nat)(X:Cx)(st:h_)(m:Ms):Prop:=vn X->PS X st (rdS C m)
abbrev SSs(C:MC)(k:Nat)(X:Cx)(st:i_ h_)(m:Ms):Prop:=vn X->δr st (rdS C m)
abbrev OpS(C:MC)(k:Nat)(X:Cx)(f:d6->d6->Sem d6)(g:PV->PV->PH->W_ 0):Prop:=vn X->A6 f (r2 C g)
abbrev lY(C:MC)(k:Nat)(X:Cx)(f:d6)(g:x_ 0->PH->W_ 0):Prop:=vn X->δu f (rL C g)
abbrev Ai:Ev->Nat->jh PV
 |[],_=>a7
 |x::_,0=>x
 |_::r,n+1=>Ai r n
@[simp]theorem Pl(x:jh PV)(r:Ev):Ai (x::r) 0=x:=rfl
@[simp]theorem Pm(x:jh PV)(r:Ev)(n:Nat):Ai (x::r) (n+1)=Ai r n:=rfl
def uZ:∀{δ:Ev}{i:Nat}{p:PV},Ai δ i=a0 p->δ[i]?=a0 (a0 p)
 |[],_,_,h=>by cases h
 |x::_,0,p,h=>by let H:x=a0 p:=h;simp[H]
 |_::r,n+1,p,h=>by rw[Vs];show uZ h
abbrev mV(i:Nat):Me:=λδ h=>match Ai δ i with
 |some p=>.ok p h
 |none=>.bad
abbrev mC(p:PV):Me:=λ_ h=>.ok p h
def Qn(i)(z:X.N[i]?=a0 x:=by rfl)(V:αn x:=by first|exact Or.inl rfl|exact Or.inr (Or.inl rfl)|exact Or.inr (Or.inr rfl))(d:(x == ("__debug__" : Str))=false:=by decide)(c:(x == ("__classdict__" : Str))=false:=by decide):c_ (.Name x pos) (mV i):=λ_=>by
 refine(GG z V d c).imp λu H Q h=>?_;let⟨t,w,h,R,r,p⟩:=h;unfold mV at p;cases e:Ai w i with
 |none=>rw[e]at p;show p.elim
 |some x=>rw[e]at p;let⟨v,V,y⟩:=r.2 i x<|uZ e;show⟨v,V,p.val R y⟩
def Qo{i j pos}:c_ (.Constant (.int i) j pos) (mC<|.int i):=λ_=>N'.imp λy H Q ⟨x,z,h,r,e,p⟩=>ZU rfl
def SR{i j pos}:c_ (.Constant (.bool i) j pos) (mC<|.bl i):=λ_=>Pz.imp λσ H Q ⟨φ,δ,h,rh,re,p⟩=>p.val rh rfl
def Qp{j pos}:c_ (.Constant .none j pos) (mC .non):=λ_=>Na.imp λy H Q ⟨x,z,h,r,e,p⟩=>ZU rfl
def Qq{i j pos}:c_ (.Constant (.str i) j pos) (mC<|.str i):=λ_=>Nb.imp λy H Q ⟨x,z,h,r,e,p⟩=>ZU rfl
def O2{n:String}(V:Vv x=a0 (.type n))(hb:x∈C.bs:=by decide)(g:Yu x:=by rfl)(N:x≠"__name__" := by decide)(d:(x == ("__debug__" : Str))=false:=by decide):c_ (.Name x pos) (mC<|.ty n):=λc=>(K8 (v:=.ty n) g (c.bn x hb) V rfl N d).imp λy H Q ⟨w,z,h,r,e,p⟩=>ZU rfl
abbrev aB(g:PV->PV->PH->W_ 0)(ma mb:Me):Me:=λδ h=>(ma δ h).bind λx h1=>(mb δ h1).bind λy h2=>g x y h2
variable{ma mb:Me}
def Ek{g:PV->PV->PH->W_ 0}{σ:St}{Q:VK}(h:rd C (aB g ma mb) σ H Q):tOp (r2 C g) (rd C ma) (rd C mb) σ H Q:=by let⟨f,s,h,j,e,p⟩:=h;refine⟨f,s,h,j,e,(Yh 0).imp ?_⟩;rintro v d ⟨w,x,q,P,T,r,V,m⟩;refine⟨w,s,q,r,e.mono P T,(post.bind m).imp ?_⟩;rintro u c ⟨t,y,o,n,i,R,z,l⟩;show⟨t,o,x,y,R,V.mono n i,z,l⟩
section
variable{a b:g_}{g:PV->PV->PH->W_ 0}
def Qr{op:Operator}(o:A2 (UO op) g)(A:c_ a ma)(hb:c_ b mb):c_ (.BinOp a op b pos) (aB g ma mb):=λc=>(PL (o c) (A c)<|hb c).imp λz H Q h=>Ek h
def Qs{op:CmpOp}(o:A2 (zt op) g)(A:c_ a ma)(hb:c_ b mb)(m:αf b=false:=by first|exact GM _|rfl):c_ (.Compare a [op] [b] pos) (aB g ma mb):=λc=>(Kg (o c) (A c) (hb c) m).imp λz H Q h=>Ek h
abbrev mUn(g:PV->PH->W_ 0)(ma:Me):Me:=λδ h=>(ma δ h).bind g
end
abbrev aH(h:PH)(n:Nat):jh (x_ 0):=match h[n]? with
 |some (.lst xs)=>a0 xs
 |_=>a7
def bU(R:m_ h)(e:Xr n=a0 xs):∃a v,φ[n]?=a0 a/\ZV v/\c9 xs v:=by
 unfold aH at e;cases q:h[n]? with
 |none=>rw[q]at e;cases e
 |some o=>
  rw[q]at e;let⟨a,A,O⟩:=R.get q;cases o with
  |lst y=>cases e;let⟨v,Q,r⟩:=O;show⟨a,v,A,SqL.of Q,r⟩
  |_=>cases e
abbrev dG(h:PH)(n:Nat):jh (x_ 0):=match h[n]? with
 |some (.lst xs)=>a0 xs
 |_=>a7
def jY(e:dG h n=a0 xs):h[n]?=a0 (.lst xs):=by
 unfold dG at e;cases q:h[n]? with
 |none=>rw[q]at e;cases e
 |some o=>
  rw[q]at e;cases o with
  |lst y=>cases e;rfl
  |_=>cases e
abbrev fQ(x:PV)(h:PH):jh (x_ 0):=match x with
 |.ref n=>Xr n
 |.fl xs=>a0 xs
 |_=>a7
def dO{x:PV}{v:V}(y:m_ h)(R:b6 x v)(e:fQ x h=a0 xs):∃a s,v=.ref a/\ZV s/\c9 xs s:=by
 cases x with
 |ref n=>let⟨a,rfl,z⟩:=R;let⟨w,s,A,S,r⟩:=bU y e;rw[z]at A;cases A;show⟨a,s,rfl,S,r⟩
 |fl Y=>
  cases e
  let⟨a,s,rfl,S,r⟩:=R;show⟨a,s,rfl,S.sq,r⟩
 |_=>cases e
abbrev ML:x_ 0->Bool
 |[]=>true
 |_::_=>false
abbrev Hx:PV->PV->PH->W_ 0:=λx y h=>match x,y with
 |.int i,.int j=>.ok (.int<|i+j) h
 |.str i,.str j=>if i.length+j.length<=w9 then .ok (.str<|i++j) h else .bad
 |.tup xs,.tup ys=>if ML xs=false/\xs.length+ys.length<=w9 then .ok (.tup<|xs++ys) h else .bad
 |.ref a,.ref b=>match dG h a,dG h b with
  |some xs,a0 ys=>if xs.length+ys.length<=w9 then .ok (.ref h.length) (h++[.lst<|xs++ys]) else .bad
  |_,_=>.bad
 |_,_=>.bad
def post.ite{c:Prop}[Decidable c]{r:W_ 0}{Q:VK}(h:p_ (if c then r else .bad) Q):c/\p_ r Q:=by
 by_cases z:c
 ·rw[YS 0]at h;show⟨z,h⟩
 ·rw[Y7 0]at h;show h.elim
def post.lnew{vs:i_ V}{Q:VK}(q:p_ (.ok (.ref h.length)<|h++[.lst xs]) Q)(R:m_ h)(r:Xh 0){p:d8}(P:H p=a7):Q (.ref p) (t_ p<|.lst vs):=q _ _ _ (zp _ _) (Kp.new P) (R.new P ⟨vs,aJ,r.mono (zp _ _)<|Kp.new P⟩) ⟨p,rfl,by rw[<-R.len];simp⟩
def post.tnew{vs:i_ V}{Q:VK}(q:p_ (.ok (.tup xs) h) Q)(R:m_ h)(r:Xh 0){p:d8}(P:H p=a7):Q (.ref p) (t_ p<|.tup vs):=q φ _ _ wm (Kp.new P) (R.aside P) ⟨p,vs,rfl,SqT.of aJ,r.mono wm<|Kp.new P⟩
def post.lset{v:V}{ws vs:i_ V}{Q:VK}(q:p_ (.ok p<|h.set n<|.lst xs) Q)(R:m_ h)(e:φ[n]?=a0 a)(l:H a=a0 (.lst ws))(r:Xh 0)(z:Xq v):Q v (YG<|.lst vs):=q φ v _ wm (Kp.lst l) (R.write e (by rw[l];trivial) ⟨vs,aJ,r.mono wm<|Kp.lst l⟩)<|z.mono wm<|Kp.lst l
def Hy{vs:i_ V}(r:Xh 0)(h:ML xs=false):vs≠[]:=by
 cases xs with
 |nil=>cases h
 |cons x xs=>
  cases vs with
  |nil=>exact r.elim
  |cons=>intro z;cases z
def Qt:A2 (UO .Add) Hx:=λc=>(KJ C.K c.K).imp λx y H Q h=>by
 let⟨T,h,p,q,r,w,Y,o⟩:=h;unfold Hx at o;cases p with
 |int i=>
  cases q with
  |int j=>cases w;cases Y;show γy rfl
  |_=>exact o.elim
 |str i=>
  cases q with
  |str j=>cases w;cases Y;show⟨o.ite.1,o.ite.2.val r rfl⟩
  |_=>exact o.elim
 |tup W=>
  cases q with
  |tup V=>let⟨a,v,rfl,S,R⟩:=w;let⟨b,U,rfl,d,B⟩:=Y;let⟨⟨t,s⟩,o⟩:=o.ite;refine .inr ⟨a,b,v,U,rfl,rfl,S,d,Hy R t,by rw[<-R.length,<-B.length];show s,λz=>?_,λz p P=>o.tnew r (R.append B) P⟩;subst z;let e:=List.eq_nil_of_length_eq_zero B.length;subst e;show γy ⟨a,v,rfl,S,by rw[Ua];show R⟩
  |_=>exact o.elim
 |ref n=>
  cases q with
  |ref m=>
   let⟨a,rfl,A⟩:=w;let⟨b,rfl,f⟩:=Y;dsimp only at o;cases E:dG h n with
   |none=>rw[E]at o;show o.elim
   |some W=>
    cases u:dG h m with
    |none=>rw[E,u]at o;show o.elim
    |some V=>rw[E,u]at o;let⟨v,t,l⟩:=Zj a _ A<|jY E;let⟨U,s,g⟩:=r.at' m b _ f<|jY u;let⟨Z,o⟩:=o.ite;show .inl ⟨a,b,v,U,rfl,rfl,t,s,by rw[<-l.length,<-g.length];show Z,λp P=>o.lnew r (l.append g) P⟩
  |_=>exact o.elim
 |_=>exact o.elim
abbrev vInt(P:Int->Int->Prop)[∀i j,Decidable<|P i j](f:Int->Int->Int):PV->PV->PH->W_ 0:=λx y h=>match x,y with
 |.int i,.int j=>if P i j then .ok (.int<|f i j) h else .bad
 |_,_=>.bad
def El{P:Int->Int->Prop}[∀i j,Decidable<|P i j]{g:Int->Int->Int}(O:A6 f (yH P g)):A2 f (vInt P g):=λc=>O.imp λx y H Q h=>by
 let⟨z,h,p,q,r,R,Y,o⟩:=h;cases p with
 |int i=>
  cases q with
  |int j=>cases R;cases Y;show⟨o.ite.1,o.ite.2.val r rfl⟩
  |_=>exact o.elim
 |_=>exact o.elim
noncomputable instance(i j:Int):Decidable (CQ i j):=Wb _
noncomputable instance(i j:Int):Decidable (GL i j):=Wb _
noncomputable instance(i j:Int):Decidable (Fp i j):=Wb _
abbrev Aj:PV->PV->PH->W_ 0:=λx y h=>match x,y with
 |.int i,.int j=>.ok (.int<|i-j) h
 |_,_=>.bad
def Qu:A2 (UO .Sub) Aj:=λc=>KL.imp λx y H Q h=>by
 let⟨z,h,p,q,r,R,Y,o⟩:=h;cases p with
 |int i=>
  cases q with
  |int j=>cases R;cases Y;show γy rfl
  |_=>exact o.elim
 |_=>exact o.elim
noncomputable abbrev Al:=vInt CQ λi j=>i*j
noncomputable abbrev An:=vInt GL λi j=>i/j
@[reducible]noncomputable def cK:=vInt (λ_ j=>0<j) λi j=>i%j
noncomputable abbrev FY:=vInt Fp λi j=>i ^ j.toNat
def Qv:A2 (UO .Mult) Al:=El KN
def Qw:A2 (UO .FloorDiv) An:=El KO
def Qx:A2 (UO .Mod) cK:=El KQ
def Qy:A2 (UO .Pow) FY:=El KR
variable{C:MC}{k:Nat}{X:Cx}
abbrev Hz(f:Int->Int->Bool)(g:v_ 0->v_ 0->Bool):PV->PV->PH->W_ 0:=λx y h=>match x,y with
 |.int i,.int j=>.ok (.bl<|f i j) h
 |.str i,.str j=>.ok (.bl<|g i.cps.toList j.cps.toList) h
 |_,_=>.bad
def HA{p:Int->Int->Bool}{g:v_ 0->v_ 0->Bool}(O:A6 f (BF p g)):A2 f (Hz p g):=λc=>O.imp λx y H Q h=>by
 let⟨z,h,p,q,r,R,Y,o⟩:=h;cases p with
 |int i=>
  cases q with
  |int j=>cases R;cases Y;show γy rfl
  |_=>exact o.elim
 |str i=>
  cases q with
  |str j=>cases R;cases Y;show γy rfl
  |_=>exact o.elim
 |_=>exact o.elim
@[reducible]noncomputable def vLt:=Hz (λi j=>decide (i<j)) λi j=>decide (i<j)
@[reducible]noncomputable def vGt:=Hz (λi j=>decide (j<i)) λi j=>decide (j<i)
@[reducible]noncomputable def vLe:=Hz (λi j=>decide (i<=j)) λi j=>!decide (j<i)
def SS:A2 (zt .Lt) vLt:=HA NY
def SU:A2 (zt .Gt) vGt:=HA NZ
def SV:A2 (zt .LtE) vLe:=HA O0
mutual
def PV.d:PV->jh D
 |.non=>a0 .non
 |.bl b=>a0 (.bl b)
 |.int i=>a0 (.int i)
 |.str x=>a0 (.str x)
 |.tup xs=>match δQ 0 with
  |some ds=>a0 (.tup ds)
  |none=>a7
 |.ref _=>a7
 |.ty _=>a7
 |.fl _=>a7
def PV.ds:x_ 0->jh (i_ D)
 |[]=>a0 []
 |x::xs=>match PV.d x,δQ 0 with
  |some d,a0 ds=>a0 (d::ds)
  |_,_=>a7
end
abbrev ofB(o:Y4 0)(h:PH):W_ 0:=match o with
 |some b=>.ok (.bl b) h
 |none=>.bad
def post.ofB{o:Y4 0}{Q:VK}(q:p_ (ofB o h) Q):∃b,o=a0 b/\p_ (.ok (.bl b) h) Q:=by
 cases o with
 |none=>exact q.elim
 |some b=>exact⟨b,rfl,q⟩
abbrev Ao:PV->jh Key
 |.int i=>a0 (.inl i)
 |.str x=>a0 (.inr x)
 |_=>a7
abbrev aK{κ:Type}[XR 0]:i_ (κ×PV)->κ->jh PV
 |[],_=>a7
 |(a,p)::r,b=>if a=b then a0 p else aK r b
abbrev Ap(h:PH)(n:Nat)(x:PV):jh (jh PV):=match h[n]? with
 |some (.dK kvs)=>match Ao x with
  |some key=>a0 (XS key)
  |none=>a7
 |_=>a7
abbrev HB(x:PV)(ys:x_ 0):Y4 0:=match x.d,PV.ds ys with
 |some d,a0 ds=>if D.depths ds<=40 then a0 (ds.any λe=>eqD e d) else a7
 |_,_=>a7
abbrev TL(x y:PV)(h:PH):Y4 0:=match y with
 |.tup ys=>HB x ys
 |.ref n=>match Xr n with
  |some ys=>HB x ys
  |none=>(Ap h n x).map Option.isSome
 |.fl ys=>HB x ys
 |_=>a7
def HC{x:PV}{v:V}{key:Key}(r:b6 x v)(e:Ao x=a0 key):v=kV key:=by cases x <;> first|(cases e;show r)|cases e
def yK{κ:Type}[XR 0]{kvs:i_ (κ×PV)}{ks:i_ (κ×V)}(r:WR kvs ks)(a:κ):match XS a,mE ks a with
  |some p,a0 v=>Xq v
  |none,a7=>True
  |_,_=>False:=by
 induction r with
 |nil=>trivial
 | @cons p q s Q h t i=>
  let⟨y,x⟩:=h;let⟨P,w⟩:=p;by_cases e:P=a
  ·let E:=y.symm.trans e;rw[pU E];unfold aK;rw[Yn 0];show x
  ·let E:=λz=>e<|y.trans z;rw[pV E];unfold aK;rw[W5 0];show i
open H in
def pD{x:PV}{v:V}{o:jh PV}(r:m_ h)(A:φ[n]?=a0 a)(m:b6 x v)(e:Ap h n x=a0 o):
  ∃O,δg v O/\o.isSome=O.isSome/\∀p,o=a0 p->∃w,O=a0 w/\Xq w:=by
 unfold Ap at e;split at e
 ·rename_i S t;split at e
  ·rename_i y K;cases e
   let⟨s,u,R⟩:=Zj a _ A t;let q:=yK R y;rw[HC m K];refine⟨mE s y,tB.k u,?_,λp P=>?_⟩
   ·cases z:aK S y <;> cases E:mE s y <;> rw[z,E]at q <;> first|rfl|exact q.elim
   ·rw[P]at q;cases E:mE s y with
    |none=>rw[E]at q;show q.elim
    |some w=>rw[E]at q;show⟨w,rfl,q⟩
  ·cases e
 ·cases e
abbrev rC:PV->Bool
 |.non=>true
 |_=>false
abbrev vIs:PV->PV->PH->W_ 0:=λx y h=>match y with
 |.non=>.ok (.bl<|rC x) h
 |.bl b=>match x with
  |.bl a=>.ok (.bl<|a == b) h
  |_=>.bad
 |_=>.bad
abbrev Aq:PV->PV->PH->W_ 0:=λx y h=>match y with
 |.non=>.ok (.bl<|!rC x) h
 |.bl b=>match x with
  |.bl a=>.ok (.bl<|!(a == b)) h
  |_=>.bad
 |_=>.bad
def RV.isNon{v:V}(r:Xq v):decide (v=.non)=rC p:=by
 cases p with
 |non=>cases r;rfl
 |tup x=>let⟨a,s,rfl,_⟩:=r;rfl
 |ref n=>let⟨a,rfl,_⟩:=r;rfl
 |fl x=>let⟨a,s,rfl,_⟩:=r;rfl
 |_=>cases r;rfl
def SX:A2 (zt .Is) vIs:=λc=>(Nz.or (λb9 s σ H x y v u Q I r R(h:∃a b,x=.bl a/\y=.bl b/\Q (.bl<|a == b) H)=>by let⟨a,b,rfl,rfl,q⟩:=h;cases r;cases R;show PyProof.Rows.is_bool ⟨.bl _,H,I,rfl,q⟩)).imp λx y H Q h=>by
 let⟨w,h,p,q,z,r,R,o⟩:=h;cases q with
 |non=>
  cases R
  refine .inl ⟨rfl,?_⟩;rw[r.isNon];show o.val z rfl
 |bl b=>
  cases p with
  |bl a=>cases r;cases R;show .inr ⟨a,b,rfl,rfl,o.val z rfl⟩
  |_=>exact o.elim
 |_=>exact o.elim
def KY:A2 (zt .IsNot) Aq:=λc=>(Kf.or (λb9 s σ H x y v u Q I r R(h:∃a b,x=.bl a/\y=.bl b/\Q (.bl<|!(a == b)) H)=>by let⟨a,b,rfl,rfl,q⟩:=h;cases r;cases R;show PyProof.Rows.isnot_bool ⟨.bl _,H,I,rfl,q⟩)).imp λx y H Q h=>by
 let⟨w,h,p,q,z,r,R,o⟩:=h;cases q with
 |non=>
  cases R
  refine .inl ⟨rfl,?_⟩;rw[r.isNon];show o.val z rfl
 |bl b=>
  cases p with
  |bl a=>cases r;cases R;show .inr ⟨a,b,rfl,rfl,o.val z rfl⟩
  |_=>exact o.elim
 |_=>exact o.elim
abbrev tru(x:PV)(h:PH):Xa 0:=match x with
 |.non=>.ok false h
 |.bl b=>.ok b h
 |.int i=>.ok (i != 0) h
 |.str y=>if y.length<=w9 then .ok ((y.length:Int) != 0) h else .bad
 |.tup xs=>.ok (!xs.isEmpty) h
 |.ref n=>match Xr n with
  |some xs=>.ok (!xs.isEmpty) h
  |none=>match h[n]? with
   |some (.dK kvs)=>.ok (!kvs.isEmpty) h
   |_=>.bad
 |.fl xs=>.ok (!xs.isEmpty) h
 |.ty _=>.bad
def RVs.isEmpty{vs:i_ V}(r:Xh 0):(!vs.isEmpty)=!xs.isEmpty:=by cases xs <;> cases vs <;> first|rfl|exact r.elim
def bL.ite{c:Prop}[Decidable c]{r:Xa 0}{Q:Bool->Hp->Prop}(h:Xm (if c then r else .bad) Q):c/\Xm r Q:=by
 by_cases z:c
 ·rw[YS 0]at h;show⟨z,h⟩
 ·rw[Y7 0]at h;show h.elim
def bL.val{Q:Bool->Hp->Prop}(q:Xm (.ok b h) Q)(r:m_ h):Q b H:=q φ H wm (δP 0) r
open H in
def FZ{v:V}{Q:Bool->Hp->Prop}(r:m_ h)(R:Xq v)(o:Xm (tru p h) Q):∃b,Kh C.K v H b/\Q b H:=by
 unfold tru at o;cases p with
 |non=>cases R;show⟨_,rfl,o.val r⟩
 |bl b=>cases R;show⟨_,rfl,o.val r⟩
 |int i=>cases R;show⟨_,rfl,o.val r⟩
 |str y=>cases R;show⟨_,⟨o.ite.1,rfl⟩,o.ite.2.val r⟩
 |tup t=>let⟨a,S,rfl,s,z⟩:=R;show⟨_,.inr<|.inl ⟨S,s,rfl⟩,by rw[z.isEmpty];show o.val r⟩
 |ref n=>
  let⟨a,rfl,w⟩:=R;dsimp only at o;cases e:Xr n with
  |some t=>rw[e]at o;let⟨j,S,A,s,z⟩:=bU r e;rw[w]at A;cases A;show⟨_,.inl ⟨S,s,rfl⟩,by rw[z.isEmpty];show o.val r⟩
  |none=>
   rw[e]at o;dsimp only at o;split at o
   ·rename_i x m;let⟨u,q,l⟩:=Zj a _ w m;refine⟨_,.inr<|.inr ⟨u,q,rfl⟩,?_⟩;have:(!u.isEmpty)=!x.isEmpty:=by cases l <;> rfl
    rw[this];show o.val r
   ·show o.elim
 |fl t=>let⟨a,S,rfl,s,z⟩:=R;show⟨_,.inl ⟨S,s.sq,rfl⟩,by rw[z.isEmpty];show o.val r⟩
 |ty n=>exact o.elim
open PySem.SeqAt
abbrev G0(y:PV)(h:PH):jh (x_ 0):=match y with
 |.tup ys=>a0 ys
 |.ref n=>Xr n
 |_=>a7
variable{C:MC}{k:Nat}{X:Cx}
abbrev aR(m:Me):Ev->PH->Xa 0:=λδ h=>(Xn h).bind tru
def HE{m:Me}{σ:St}{Q:Bool->Hp->Prop}(h:rdB C (aR m) σ H Q):rd C m σ H λv z=>∃b,Kh C.K v z b/\Q b z:=by let⟨u,w,h,y,e,p⟩:=h;refine⟨u,w,h,y,e,(post.bindB p).imp ?_⟩;rintro v z ⟨t,x,s,P,T,r,R,q⟩;show FZ r R q
section
variable{a b c':g_}{mc m:Me}{g g':PV->PV->PH->W_ 0}{ta tb:Ev->PH->Xa 0}
def Qz(h:c_ e m)(E:∀w,γ2 w=(do let v <-w;standAt e.pos;holding [v] (truthy v)):=by intro _;rfl):Yi e (aR m):=λc=>
 (GO (h c) E).imp λz H Q q=>by rw[c.K];exact HE q
def QA{op:CmpOp}(O:A2 (zt op) g)(A:c_ a ma)(hb:c_ b mb)(M:αf b=false:=by first|exact GM _|rfl):Yi (.Compare a [op] [b] pos) (aR<|aB g ma mb):=λc=>by
 refine λp s t H Q I h=>wpAny_isTrue_Compare1 (thn (A c p s t H _ I<|Ek<|HE h) λv S ⟨x,r,l,R,f⟩=>thn (hb c p S t r _ l f) λu W ⟨y,o,j,Z,d⟩=>thn (O c p W t o x y v u _ j R Z d) λw V ⟨z,n,i,Y,q⟩=>?_) M;rw[<-c.K]at q;show GN p V t n z w Q i Y q
abbrev MM(z:PV)(h:PH):W_ 0:=match z with
 |.bl b=>.ok (.bl b) h
 |_=>.bad
abbrev TM(g g':PV->PV->PH->W_ 0)(ma mb mc:Me):Me:=λδ h=>(ma δ h).bind λx h1=>(mb δ h1).bind λy h2=>(g x y h2).bind λz h3=>match z with
 |.bl true=>(mc δ h3).bind λw h4=>(g' y w h4).bind MM
 |.bl false=>.ok (.bl false) h3
 |_=>.bad
abbrev qE(t:Ev->PH->Xa 0):Ev->PH->Xa 0:=λδ h=>(t δ h).bind λb h1=>.ok (!b) h1
abbrev yL(ta tb:Ev->PH->Xa 0):Ev->PH->Xa 0:=λδ h=>(ta δ h).bind λb h1=>match b with
 |true=>tb δ h1
 |false=>.ok false h1
abbrev Ar(ta tb:Ev->PH->Xa 0):Ev->PH->Xa 0:=λδ h=>(ta δ h).bind λb h1=>match b with
 |true=>.ok true h1
 |false=>tb δ h1
def bL.imp{r:Xa 0}{Q Q':Bool->Hp->Prop}(h:Xm r Q)(i:∀v z,Q v z->Q' v z):Xm r Q':=by
 cases r with
 |ok a x=>exact λy z p t R=>i a z (h y z p t R)
 |exc a x=>exact h
 |bad=>exact h
def QB(h:Yi e ta):Yi (.UnaryOp .Not e pos) (qE ta):=λc=>(Nf<|h c).imp λs H Q q=>by let⟨w,x,h,y,R,p⟩:=q;refine⟨w,x,h,y,R,(bL.bindB p).imp ?_⟩;rintro b u ⟨v,t,P,T,r,z⟩;show z.val r
abbrev SW(C:MC)(k:Nat)(X:Cx)(e:g_)(m:Ev->PH->Xa 0):Prop:=vn X->PW X e (rdB C m)
def SW.t(h:βo e ta):Yi e ta:=λc=>(h c).pt
def PW.imp{t t':TT}(h:PW X e t)(i:∀z H Q,t' z H Q->t z H Q):PW X e t':=λw p s z H Q I q=>h w p s z H Q I<|i z H Q q
def O3(h:Yi a ta):βo (.BoolOp .And [a] pos) ta:=λc=>K9<|h c
def QC(h:Yi a ta):βo (.BoolOp .Or [a] pos) ta:=λc=>Nc<|h c
def w_and{rest:i_ g_}(A:Yi a ta)(hb:βo (.BoolOp .And (b::rest) pos) tb):βo (.BoolOp .And (a::b::rest) pos) (yL ta tb):=λc=>PW.imp (Nd (A c)<|hb c) λo H Q q=>by
 let⟨u,x,h,v,R,p⟩:=q;refine⟨u,x,h,v,R,(bL.bindB p).imp ?_⟩;rintro b s ⟨z,w,P,t,r,y⟩;cases b with
 |true=>exact FC ⟨z,x,w,r,βp t,y⟩
 |false=>exact FB<|y.val r
def w_or{rest:i_ g_}(A:Yi a ta)(hb:βo (.BoolOp .Or (b::rest) pos) tb):βo (.BoolOp .Or (a::b::rest) pos) (Ar ta tb):=λc=>PW.imp (PB (A c)<|hb c) λo H Q q=>by
 let⟨u,x,h,v,R,p⟩:=q;refine⟨u,x,h,v,R,(bL.bindB p).imp ?_⟩;rintro b s ⟨z,w,P,t,r,y⟩;cases b with
 |true=>exact FC<|y.val r
 |false=>exact FB ⟨z,x,w,r,βp t,y⟩
abbrev vA(ma mb:Me):Me:=λδ h=>(ma δ h).bind λx h1=>match x with
 |.bl true=>mb δ h1
 |.bl false=>.ok (.bl false) h1
 |_=>.bad
def QD{op}(h:c_ a ma):c_ (.BoolOp op [a] pos) ma:=λc=>Ng<|h c
def QE{rest:i_ g_}(A:c_ a ma)(hb:c_ (.BoolOp .And (b::rest) pos) mb):c_ (.BoolOp .And (a::b::rest) pos) (vA ma mb):=λc=>(KS (A c)<|hb c).imp λn H Q q=>by
 let⟨s,w,h,t,R,p⟩:=q;refine⟨s,w,h,t,R,(Yh 0).imp ?_⟩;rintro v o ⟨y,x,u,P,T,r,V,z⟩;cases x with
 |bl b=>
  cases V
  cases b with
  |true=>exact FC ⟨y,w,u,r,βp T,z⟩
  |false=>exact FB<|z.val r rfl
 |_=>exact z.elim
abbrev mIf(t:Ev->PH->Xa 0)(ma mb:Me):Me:=λδ h=>(t δ h).bind λb h1=>match b with
 |true=>ma δ h1
 |false=>mb δ h1
def KZ(T:Yi c' ta)(A:c_ a ma)(hb:c_ b mb):c_ (.IfExp c' a b pos) (mIf ta ma mb):=λc=>(GH (T c) (A c)<|hb c).imp λo H Q q=>by
 let⟨u,y,h,v,R,p⟩:=q;refine⟨u,y,h,v,R,(bL.bind p).imp ?_⟩;rintro b s ⟨z,x,P,t,r,w⟩;cases b with
 |true=>exact FC ⟨z,y,x,r,βp t,w⟩
 |false=>exact FB ⟨z,y,x,r,βp t,w⟩
end
def RVs.atI{vs:i_ V}{i:Int}{x:PV}(r:Xh 0)(e:_L.atI xs i=a0 x):∃v,_L.atI vs i=a0 v/\b6 x v:=by
 unfold _L.atI at e⊢;rw[<-r.length];cases q:ixN _ i with
 |none=>rw[q]at e;cases e
 |some j=>rw[q]at e;show r.at e
abbrev ofO(o:jh PV)(h:PH):W_ 0:=match o with
 |some p=>.ok p h
 |none=>.bad
abbrev vIx:PV->PV->PH->W_ 0:=λx y h=>match x with
 |.str z=>(match y with
  |.int i=>if z.length<=w9 then ofO ((αg i).map λc=>.str ⟨#[c]⟩) h else .bad
  |_=>.bad)
 |.tup xs=>(match y with
  |.int i=>ofO (YT i) h
  |_=>.bad)
 |.fl xs=>(match y with
  |.int i=>ofO (YT i) h
  |_=>.bad)
 |.ref n=>(match Xr n with
  |some xs=>(match y with
   |.int i=>ofO (YT i) h
   |_=>.bad)
  |none=>(match Ap h n y with
   |some o=>ofO o h
   |none=>.bad))
 |_=>.bad
def post.ofO{o:jh PV}{Q:VK}(q:p_ (ofO o h) Q):∃p,o=a0 p/\p_ (.ok p h) Q:=by
 cases o with
 |none=>exact q.elim
 |some b=>exact⟨b,rfl,q⟩
def QF{x y:V}{Q:VK}(h:r2 C vIx x y H Q):Qi C.K x y H Q:=by
 let⟨U,h,p,q,r,m,Y,P⟩:=h;unfold vIx at P;cases p with
 |str z=>
  cases m
  cases q with
  |int i=>
   cases Y
   let⟨Z,P⟩:=P.ite;let⟨p,e,P⟩:=P.ofO;cases E:atI _ i with
   |none=>rw[E]at e;cases e
   |some c=>rw[E]at e;cases e;show⟨Z,c,E,X8 rfl⟩
  |_=>exact P.elim
 |tup j=>
  let⟨a,S,rfl,s,R⟩:=m;cases q with
  |int i=>
   cases Y
   let⟨p,e,P⟩:=P.ofO;let⟨v,u,t⟩:=R.atI e;show .inl ⟨S,i,v,rfl,.inr s,u,X8 t⟩
  |_=>exact P.elim
 |fl j=>
  let⟨a,S,rfl,s,R⟩:=m;cases q with
  |int i=>
   cases Y
   let⟨p,e,P⟩:=P.ofO;let⟨v,u,t⟩:=R.atI e;show .inl ⟨S,i,v,rfl,.inl s.sq,u,X8 t⟩
  |_=>exact P.elim
 |ref n=>
  let⟨a,rfl,l⟩:=m;dsimp only at P;cases e:Xr n with
  |some j=>
   rw[e]at P;let⟨d,S,A,s,R⟩:=bU r e;rw[l]at A;cases A;cases q with
   |int i=>
    cases Y
    let⟨p,e,P⟩:=P.ofO;let⟨v,u,t⟩:=R.atI e;show .inl ⟨S,i,v,rfl,.inl s,u,X8 t⟩
   |_=>exact P.elim
  |none=>
   rw[e]at P;cases E:Ap h n q with
   |none=>rw[E]at P;show P.elim
   |some o=>rw[E]at P;let⟨p,O,P⟩:=P.ofO;let⟨b,g,_,f⟩:=pD r l Y E;let⟨w,rfl,W⟩:=f p O;show .inr ⟨w,g,X8 W⟩
 |_=>exact P.elim
variable{hi:WS 0}{vl vu:d6}
def oS{t sl:d8}{lo:WS 0}(H:αo t items)(S:Yx vu .none)(p:IsPart vl lo)(u:IsPart vu hi)(W:ZW 0 lo=0/\ZW items.size hi=items.size)(h:Q (.ref t) s):cu (getItem (.ref t)<|.ref sl) Q E s:=by
 let⟨O,o,c,d⟩:=id S;unfold getItem
 try with_reducible refine Io ?_
 skip
 refine vy (wpAny_sequenceKey H.typeIs (by decide) ?_);refine vy (y0 H.typeIs Ub
  (zd Ub H.typeIs entry_tuple_getitem ?_ (args_tuple_getitem _ _)))
 change W0 (Wt _ >>= _) _ _ s
 refine vy<|tupleItemsOf_ H ?_;refine vy<|wpAny_typeOf ⟨O,o,c⟩ ?_;refine vy<|HT.sliceApplied_gen S p u ?_;let n:((((HT.sIx items.size 0 lo:Nat):Int) == 0&&(1:Int) == 1&&(ZW items.size hi-ZW 0 lo) == items.size)=true):=by simp_all
 change W0 (if(((HT.sIx _ 0 lo:Nat):Int) == 0&&(1) == 1&&(HT.sIx _ _ hi-HT.sIx _ 0 lo) == items.size)=true then _ else _) _ _ s
 rw[if_pos n];refine vy ?_;refine vy<|wpAny_typeOf H.typeIs<|v8 ?_;refine vy<|WE ?_;show v8 ⟨_,rfl,v8 h⟩
variable{C:MC}{k:Nat}{X:Cx}
abbrev fY{α:Type}(xs:ZH 0)(lo hi:WS 0):ZH 0:=(xs.drop<|HT.sIx xs.length 0 lo).take<|HT.sIx xs.length xs.length hi-X5 0 lo
def RVs.cut{vs:i_ V}(r:Xh 0)(lo hi):c9 (fY xs lo hi) (Fy vs lo hi):=by unfold fY Fy;rw[<-r.length];show(r.drop _).take _
abbrev vSl:PV->WS 0->WS 0->PH->W_ 0:=λx lo hi h=>match x with
 |.str z=>if z.length<=w9 then .ok (.str<|UF z lo hi) h else .bad
 |.tup xs=>.ok (.tup<|fY xs lo hi) h
 |.ref n=>match Xr n with
  |some xs=>.ok (.ref h.length) (h++[.lst<|fY xs lo hi])
  |none=>.bad
 |.fl xs=>.ok (.ref h.length) (h++[.lst<|fY xs lo hi])
 |_=>.bad
abbrev QG(K:wc):V->WS 0->WS 0->Hp->VK->Prop:=λx lo hi H Q=>∃a xs,x=.ref a/\WW a xs/\(X5 0 lo=0/\X5 xs.length hi=xs.length)/\Q (.ref a) H
def HF:γ6 (QG X.K):=by
 rintro p s m H x v V U L o n Q I R S P u ⟨a,y,rfl,z,w,q⟩;cases R
 let⟨i,r,t,Z⟩:=I.tuple z;let l:i.toArray.size=y.length:=by rw[w6];show r.length.symm
 refine⟨"tuple",_,Ub.lookup,t.typeIs,?_⟩;show oS t S P u (by rw[l];show w) ⟨.ref a,H,I,rfl,q⟩
def SlR.imp{r r':V->WS 0->WS 0->Hp->VK->Prop}(h:γ6 r)(i:∀x l z H Q,r' x l z H Q->r x l z H Q):γ6 r':=λp s w H x v y U l z L Q I R S P u q=>h p s w H x v y U l z L Q I R S P u<|i x l z H Q q
abbrev r3(C:MC)(g:PV->WS 0->WS 0->PH->W_ 0):V->WS 0->WS 0->Hp->VK->Prop:=λx lo hi H Q=>∃φ h p,m_ h/\Xq x/\p_ (g p lo hi h) Q
def O4(y:X.K=C.K):γ6 (r3 C vSl):=by
 let e:γ6 (λx l i H Q=>Qd x l i H Q\/PY C.K x l i H Q\/Q2 C.K x l i H Q\/QG C.K x l i H Q):=by rw[<-y];show NX.or<|NH.or<|Kt.or HF
 refine e.imp λx l i H Q h=>?_;let⟨q,h,p,R,V,o⟩:=h;unfold vSl at o;cases p with
 |str z=>cases V;show .inl ⟨z,rfl,o.ite.1,o.ite.2.val R rfl⟩
 |tup S=>
  let⟨a,v,rfl,s,r⟩:=V;by_cases w:HT.sIx v.length 0 l=0/\HT.sIx v.length v.length i=v.length
  ·refine .inr (.inr<|.inr ⟨a,v,rfl,s,w,o.val R ⟨a,v,rfl,s,?_⟩⟩);let e:fY S l i=S:=by unfold fY;rw[r.length,w.1,w.2,zx,Wh,<-r.length,VG]
   rw[e];show r
  ·show .inr (.inl ⟨a,v,rfl,s,w,λp P=>o.tnew R (r.cut l i) P⟩)
 |ref n=>
  let⟨a,rfl,u⟩:=V;dsimp only at o;cases e:Xr n with
  |none=>rw[e]at o;show o.elim
  |some S=>rw[e]at o;let⟨t,v,A,s,r⟩:=bU R e;rw[u]at A;cases A;show .inr<|.inr<|.inl ⟨a,v,rfl,s,λp P=>δR (r.cut l i) P⟩
 |fl S=>let⟨a,v,rfl,s,r⟩:=V;show .inr<|.inr<|.inl ⟨a,v,rfl,s.sq,λp P=>δR (r.cut l i) P⟩
 |_=>exact o.elim
@[reducible]noncomputable def Mo:=Ev->PH->Rs (WS 0)
abbrev sI(C:MC)(φ:i_ d8)(H:Hp)(r:Rs (WS 0))(Q:WS 0->Hp->Prop):Prop:=match r with
 |.ok b h=>∀φ' H',φ<+:φ'->L_ H'->A3 h->Q b H'
 |.exc x h=>∀φ' H',φ<+:φ'->L_ H'->A3 h->ZT x
 |.bad=>False
abbrev rdO(C:MC)(m:Mo):TO:=λσ H Q=>∃φ δ h,m_ h/\J_ 0/\sI C φ H (Xn h) Q
abbrev SO(C:MC)(k:Nat)(X:Cx)(e:jh g_)(m:Mo):Prop:=vn X->PO X e (rdO C m)
abbrev mG:Mo:=λ_ h=>.ok a7 h
abbrev mP(m:Me):Mo:=λδ h=>(Xn h).bind λx h1=>match x with
 |.int i=>.ok (a0 i) h1
 |_=>.bad
def O5:SO C k X a7 mG:=λc i s z H Q I h=>by let⟨y,x,h,r,e,p⟩:=h;show Ko i s z H Q I<|p y H wm (δP 0) r
def O6{m:Me}(h:c_ e m):SO C k X (a0 e) (mP m):=λc n s l H Q I q=>by
 refine Ho (h c) n s l H Q I ?_;let⟨j,y,h,o,t,p⟩:=q;refine⟨j,y,h,o,t,?_⟩;unfold mP at p;cases E:m y h with
 |ok x u=>
  rw[E]at p;intro z v w P T r R;cases x with
  |int i=>cases R;show p z w P T r
  |_=>exact p.elim
 |exc x u=>rw[E]at p;show p
 |bad=>rw[E]at p;show p
abbrev mSl(me:Me)(ml mh:Mo):Me:=λδ h=>(me δ h).bind λx h1=>(ml δ h1).bind λl h2=>(mh δ h2).bind λu h3=>vSl x l u h3
def sI.bind{r:Rs (WS 0)}{f:WS 0->PH->W_ 0}{Q:VK}(h:p_ (β4 0) Q):sI C φ H r λb y=>∃z v,φ<+:z/\L_ y/\Xl z y v/\XY z y (f b v) Q:=by
 cases r with
 |ok a w=>exact λx u p t R=>⟨x,w,p,t,R,Z_ h⟩
 |exc a w=>exact h
 |bad=>exact h
variable{Q':WS 0->Hp->Prop}
def sI.imp{r:Rs (WS 0)}{Q:WS 0->Hp->Prop}(h:sI C φ H r Q)(i:∀v z,Q v z->Q' v z):sI C φ H r Q':=by
 cases r with
 |ok a x=>exact λy z p t R=>i a z (h y z p t R)
 |exc a x=>exact h
 |bad=>exact h
variable{me:Me}{mh ml:Mo}{p2:Pos}
def SY{lo hi:jh g_}(E:c_ e me)(L:SO C k X lo ml)(i:SO C k X hi mh):c_ (.Subscript e (.Slice lo hi a7 p2) pos) (mSl me ml mh):=λc=>(GZ (O4 c.K) (E c) (L c)<|i c).imp λO H Q h=>by let⟨Y,w,h,a,r,p⟩:=h;refine⟨Y,w,h,a,r,(Yh 0).imp ?_⟩;rintro v W ⟨t,x,n,P,T,R,V,f⟩;refine⟨t,w,n,R,γe T,(sI.bind f).imp ?_⟩;rintro l U ⟨s,m,p2,o,z,d⟩;refine⟨s,w,m,z,r.mono (P.trans p2)<|T.trans o,(sI.bind d).imp ?_⟩;rintro u S ⟨q,j,g,Z,y,b⟩;show⟨q,j,x,y,V.mono (p2.trans g)<|o.trans Z,b⟩
@[reducible]noncomputable def Ma:=Ev->PH->Rs (x_ 0)
abbrev aC:Ma:=λ_ h=>.ok [] h
abbrev aA(m:Me)(ms:Ma):Ma:=λδ h=>(Xn h).bind λx h1=>(Xi h1).bind λxs h2=>.ok (x::xs) h2
def PA.imp{t t':TA}(h:δx t)(i:∀z H Q,t' z H Q->t z H Q):δx t':=λpos p s z H Q I q=>h pos p s z H Q I<|i z H Q q
def QH:Xo [] aC:=λc=>zT.imp λx H Q h=>by let⟨z,y,h,r,e,p⟩:=h;show p z [] H wm (δP 0) r trivial
def postA.imp{Q Q':i_ V->Hp->Prop}(h:XC r Q)(i:∀v z,Q v z->Q' v z):XC r Q':=by
 cases r with
 |ok a x=>exact λy v z p t R w=>i v z (h y v z p t R w)
 |exc a x=>exact h
 |bad=>exact h
variable{ms:Ma}
def O7{m:Me}(q:c_ e m)(S:Xo es ms)(o:xq (e::es) X.env=(false,xl 0)::Mm 0:=by rfl):Xo (e::es) (aA m ms):=λc=>(tL (q c) (S c) o).imp λY H Q h=>by let⟨d,t,h,i,E,p⟩:=h;refine⟨d,t,h,i,E,(post.bindA p).imp ?_⟩;rintro v b ⟨y,x,s,P,T,r,V,l⟩;refine⟨y,t,s,r,E.mono P T,(postA.bindA l).imp ?_⟩;rintro f u ⟨w,Z,a,n,g,R,z,j⟩;show j w _ u wm (Kp.refl u) R ⟨V.mono n g,z⟩
abbrev aT(ms:Ma):Me:=λδ h=>(Xi h).bind λxs h1=>if xs.length<=w9 then .ok (.tup xs) h1 else .bad
abbrev cO(ms:Ma):Me:=λδ h=>(Xi h).bind λxs h1=>if xs.length<=w9 then .ok (.ref h1.length) (h1++[.lst xs]) else .bad
def QI{x1}(s:Xo es ms):c_ (.Tuple es x1 pos) (aT ms):=λc=>(ND<|s c).imp λo H Q h=>by let⟨x,y,h,z,e,p⟩:=h;refine⟨x,y,h,z,e,(postA.bind p).imp ?_⟩;rintro V v ⟨w,S,u,t,T,R,r,q⟩;show⟨by rw[<-r.length];show q.ite.1,λp P=>q.ite.2.tnew R r P⟩
def QJ(s:Xo es ms):c_ (.List es pos) (cO ms):=λc=>(NF<|s c).imp λo H Q h=>by let⟨x,y,h,z,e,p⟩:=h;refine⟨x,y,h,z,e,(postA.bind p).imp ?_⟩;rintro V v ⟨w,S,u,t,T,R,r,q⟩;show⟨by rw[<-r.length];show q.ite.1,λp P=>q.ite.2.lnew R r P⟩
abbrev kQ:Me:=λ_ h=>.ok (.ref h.length)<|h++[.dK []]
def L5:c_ (.Dict [] [] pos) kQ:=λc=>Hd.imp λx H Q h=>by let⟨z,y,h,r,e,p⟩:=h;show λa A=>βI _ (zp _ _) (Kp.new A) (r.new A ⟨[],aJ,.nil⟩) ⟨a,rfl,by rw[<-r.len];simp⟩
abbrev mCB(g:x_ 0->PH->W_ 0)(ms:Ma):Me:=λδ h=>(Xi h).bind g
def MN{g:x_ 0->PH->W_ 0}{σ:St}{Q:VK}(h:rd C (mCB g ms) σ H Q):tCB (rL C g) (rdA C ms) σ H Q:=by let⟨u,w,h,R,e,p⟩:=h;refine⟨u,w,h,R,e,(postA.bind p).imp ?_⟩;rintro s t ⟨z,x,y,P,T,r,v,q⟩;show⟨z,y,x,r,v,q⟩
def oG{p:Pos}{id:String}{g:x_ 0->PH->W_ 0}(z:Yj (.builtin id) g)(v:Vv x=a0 (.builtin id))(a:Xo (e::es) ms)(hb:x∈C.bs:=by decide)(G:Yu x:=by rfl)(n:x≠"__name__" := by decide)(d:(x == ("__debug__" : Str))=false:=by decide)(E:xq (e::es) X.env=(false,xl 0)::Mm 0:=by rfl)(l:(As<|xq es X.env).any (·.1)=false:=by rfl):c_ (.Call (.Name x p) (e::es) [] pos) (mCB g ms):=λc=>(GX (z c) G (c.bn x hb) v (a c) n d E l).imp λy H Q h=>MN h
variable{T:String}
def BQ{p:Pos}{g:x_ 0->PH->W_ 0}(z:Yj (.type T) g)(v:Vv x=a0 (.type T))(a:Xo (e::es) ms)(hb:x∈C.bs:=by decide)(G:Yu x:=by rfl)(n:x≠"__name__" := by decide)(d:(x == ("__debug__" : Str))=false:=by decide)(E:xq (e::es) X.env=(false,xl 0)::Mm 0:=by rfl)(l:(As<|xq es X.env).any (·.1)=false:=by rfl):c_ (.Call (.Name x p) (e::es) [] pos) (mCB g ms):=λc=>(Fx (z c) G (c.bn x hb) v (a c) n d E l).imp λy H Q h=>MN h
abbrev spM(C:MC)(n:Nat)(f:Fn):Sp:=λvs H Q _=>∃φ h ps,m_ h/\c9 ps vs/\ps.length=n/\p_ (f ps h) Q
abbrev aW(n:Nat)(f:Fn)(ms:Ma):Me:=λδ h=>(Xi h).bind λps h1=>if ps.length=n then f ps h1 else .bad
def s_call{p:Pos}{st:h_}{f:Fn}(D:Xe a fd ps)(G:j_ a fd ps (Yt n f))(A:Xo (e::es) ms)(J:j<=k:=by decide)(t:Yu x:=by rfl)(d:(x == ("__debug__" : Str))=false:=by decide)(u:xq (e::es) X.env=(false,xl 0)::Mm 0:=by rfl)(l:(As<|xq es X.env).any (·.1)=false:=by rfl):
  c_ (.Call (.Name x p) (e::es) [] pos) (aW n f ms):=λc=>by
 let E:=c.K;refine(Qm (by rw[E];show D) (by rw[E];show G) (βK 0) (A c) t d u l).imp λZ H Q h=>?_;let⟨m,o,h,s,R,p⟩:=h;refine⟨m,o,h,s,R,(postA.bind p).imp ?_⟩;rintro V i ⟨z,S,y,P,b,r,v,q⟩;refine⟨z,y,S,r,by rw[Ua];show v,q.ite.1,q.ite.2⟩
abbrev kR:x_ 0->PH->W_ 0:=λxs h=>match xs with
 |[.str y]=>if y.length<=w9 then .ok (.int y.length) h else .bad
 |[.tup ys]=>.ok (.int ys.length) h
 |[.fl ys]=>.ok (.int ys.length) h
 |[.ref n]=>match Xr n with
  |some ys=>.ok (.int ys.length) h
  |none=>match h[n]? with
   |some (.dK kvs)=>.ok (.int kvs.length) h
   |_=>.bad
 |_=>.bad
def RVs.one{x:PV}{vs:i_ V}(r:c9 [x] vs):∃v,vs=[v]/\b6 x v:=by
 match vs,r with
 |[v],⟨h,_⟩=>exact⟨v,rfl,h⟩
 |[],h=>exact h.elim
 |_::_::_,⟨_,h⟩=>exact h.elim
variable{y:PV}
def RVs.two{x:PV}{vs:i_ V}(r:c9 [x,y] vs):∃v w,vs=[v,w]/\b6 x v/\b6 y w:=by
 match vs,r with
 |[v,w],⟨h,z,_⟩=>exact⟨v,w,rfl,h,z⟩
 |[],h=>exact h.elim
 |[_],⟨_,h⟩=>exact h.elim
 |_::_::_::_,⟨_,_,h⟩=>exact h.elim
open H in
def QK:Yj (.builtin "len") kR:=λc=>(FO C.K c.K).imp λs H Q h=>by
 let⟨m,h,P,r,V,p⟩:=h;unfold kR at p;split at p
 ·let⟨v,rfl,x⟩:=V.one;cases x
  show⟨p.ite.1,p.ite.2.val r rfl⟩
 ·let⟨v,rfl,⟨a,s,rfl,S,R⟩⟩:=V.one;show .inl ⟨s,.inr S,by rw[<-R.length];show ZU rfl⟩
 ·let⟨v,rfl,⟨a,s,rfl,S,R⟩⟩:=V.one;show .inl ⟨s,.inl S.sq,by rw[<-R.length];show ZU rfl⟩
 ·rename_i n;let⟨v,rfl,⟨a,rfl,z⟩⟩:=V.one;split at p
  ·rename_i Y e;let⟨o,s,A,S,R⟩:=bU r e;rw[z]at A;cases A;show .inl ⟨s,.inl S,by rw[<-R.length];show ZU rfl⟩
  ·split at p
   ·rename_i t w;let⟨u,y,q⟩:=Zj a _ z w;refine .inr ⟨u,y,?_⟩;have:=(ze q).symm;rw[this];show ZU rfl
   ·show p.elim
 ·show p.elim
abbrev mO:x_ 0->PH->W_ 0:=λxs h=>match xs with
 |[.tup ys]=>.ok (.tup ys) h
 |[.fl ys]=>.ok (.tup ys) h
 |[.ref n]=>match Xr n with
  |some ys=>.ok (.tup ys) h
  |none=>.bad
 |_=>.bad
open H in
def L6:Yj (.type "tuple") mO:=λc=>(BG C.K c.K).imp λs H Q h=>by
 let⟨u,h,w,R,V,o⟩:=h;unfold mO at o;split at o
 ·let⟨v,rfl,⟨a,s,rfl,S,r⟩⟩:=V.one;show⟨a,s,rfl,.inr ⟨S,o.val R ⟨a,s,rfl,S,r⟩⟩⟩
 ·let⟨v,rfl,⟨a,s,rfl,S,r⟩⟩:=V.one;show⟨a,s,rfl,.inl ⟨S.sq,λp P=>o.tnew R r P⟩⟩
 ·let⟨v,rfl,⟨a,rfl,z⟩⟩:=V.one;split at o
  ·rename_i Y e;let⟨y,s,A,S,r⟩:=bU R e;rw[z]at A;cases A;show⟨a,s,rfl,.inl ⟨S,λp P=>o.tnew R r P⟩⟩
  ·show o.elim
 ·show o.elim
abbrev BR:x_ 0->PH->W_ 0:=λxs h=>match xs with
 |[.tup ys]=>.ok (.ref h.length) (h++[.lst ys])
 |[.fl ys]=>.ok (.ref h.length) (h++[.lst ys])
 |[.ref n]=>match Xr n with
  |some ys=>.ok (.ref h.length) (h++[.lst ys])
  |none=>.bad
 |_=>.bad
open H in
def O8:Yj (.type "list") BR:=λc=>(Dh C.K c.K).imp λs H Q h=>by
 let⟨u,h,w,R,V,o⟩:=h;unfold BR at o;split at o
 ·let⟨v,rfl,⟨a,s,rfl,S,r⟩⟩:=V.one;show⟨a,s,rfl,.inr S,λp P=>δR r P⟩
 ·let⟨v,rfl,⟨a,s,rfl,S,r⟩⟩:=V.one;show⟨a,s,rfl,.inl S.sq,λp P=>δR r P⟩
 ·let⟨v,rfl,⟨a,rfl,z⟩⟩:=V.one;split at o
  ·rename_i Y e;let⟨y,s,A,S,r⟩:=bU R e;rw[z]at A;cases A;show⟨a,s,rfl,.inl S,λp P=>δR r P⟩
  ·show o.elim
 ·show o.elim
variable{C:MC}{k:Nat}{X:Cx}
abbrev Rs.fl{α:Type}(r:Rs α)(f:α->PH->Fl):Fl:=match r with
 |.ok a h=>f a h
 |.exc x h=>.exc x h
 |.bad=>.bad
@[simp]theorem Rs.fl_ok{α:Type}(a:α)(h:PH)(f:α->PH->Fl):(Rs.ok a h).fl f=f a h:=(rfl)
def post.fl{r:W_ 0}{f:PV->PH->Fl}{D:Ends}(h:Ys (r.fl f) D):p_ r λv y=>∃z p u,φ<+:z/\L_ y/\Xl z y u/\RV C z y p v/\cB C z y (f p u) D:=by
 cases r with
 |ok a w=>exact λx v s p t R V=>⟨x,a,w,p,t,R,V,γz h⟩
 |exc a w=>exact h
 |bad=>exact h
def bL.fl{r:Xa 0}{f:Bool->PH->Fl}{D:Ends}(h:Ys (r.fl f) D):Xm r λb y=>∃z v,φ<+:z/\L_ y/\Xl z y v/\cB C z y (f b v) D:=by
 cases r with
 |ok a w=>exact λx u p t R=>⟨x,w,p,t,R,γz h⟩
 |exc a w=>exact h
 |bad=>exact h
def cB.nx{D:Ends}{σ:St}(q:Ys (.nx δ h) D)(R:m_ h)(r:J_ 0):αQ H:=q φ σ H wm (δP 0) R r
def cB.rt{D:Ends}{v:V}(q:Ys (.rt p h) D)(r:m_ h)(R:Xq v):D.rt v H:=q φ v H wm (δP 0) r R
@[reducible]noncomputable def Mg:=PV->Ev->jh Ev
@[reducible]noncomputable def Mgs:=x_ 0->Ev->jh Ev
abbrev rdG(C:MC)(t:Mg):TG:=λv σ H Q=>∃φ δ h p δ',m_ h/\J_ 0/\Xq v/\t p δ=a0 δ'/\∀σ',γw δ' σ'->Q σ' H
abbrev SZ(C:MC)(t:Mgs):TGs:=λvs σ H Q=>∃φ δ h ps δ',m_ h/\J_ 0/\c9 ps vs/\t ps δ=a0 δ'/\∀σ',γw δ' σ'->Q σ' H
abbrev SG(C:MC)(k:Nat)(X:Cx)(e:g_)(t:Mg):Prop:=vn X->PG X e (rdG C t)
abbrev SGs(C:MC)(k:Nat)(X:Cx)(es:i_ g_)(t:Mgs):Prop:=vn X->β6 (SZ C t)
abbrev gN(i:Nat):Mg:=λp δ=>a0<|δ.set i<|a0 p
abbrev gNl:Mgs:=λps δ=>match ps with
 |[]=>a0 δ
 |_::_=>a7
abbrev gCn(t:Mg)(u:Mgs):Mgs:=λps δ=>match ps with
 |p::r=>(t p δ).bind (u r)
 |[]=>a7
abbrev gTp(n:Nat)(u:Mgs):Mg:=λp δ=>match p with
 |.tup ps=>if ps.length=n then u ps δ else a7
 |_=>a7
def PG.imp{t t':TG}(h:PG X e t)(i:∀v z H Q,t' v z H Q->t v z H Q):PG X e t':=λp s z H v u Q I r q=>X4 v u Q I r<|i v z H Q q
def PGs.imp{t t':TGs}(h:β6 t)(i:∀v z H Q,t' v z H Q->t v z H Q):β6 t':=λp s z H v u Q I r q=>X4 v u Q I r<|i v z H Q q
def O9(z:X.N.Nodup)(hi:X.N[i]?=a0 x:=by rfl)(y:Ym x:=by first|exact Or.inl rfl|exact Or.inr rfl)(f:X.fn x=true\/vv 0=a0 .local:=by first|exact .inl rfl|exact .inr rfl):γA X (.Name x pos) (gN i):=λc=>
 (Kc z hi y f).imp λv s H Q h=>by
  let⟨o,t,h,p,w,u,r,R,e,q⟩:=h;cases e
  show q _<|r.set R i
def QL:SGs C k X [] gNl:=λc=>Kd.imp λv y H Q h=>by
 let⟨u,w,h,p,z,x,r,R,e,q⟩:=h;cases p with
 |nil=>
  cases e
  cases v with
  |nil=>exact⟨rfl,q y r⟩
  |cons=>exact R.elim
 |cons=>cases e
def O'{t:Mg}{u:Mgs}(h1:γA X e t)(h2:SGs C k X es u)(S:(VE (e::es) X.env).map (·.2)=assign e X.env::(ZN 0).map (·.2):=by rfl):SGs C k X (e::es) (gCn t u):=λc=>
 (GK (h1 c) (h2 c) S).imp λs j H Q h=>by
  let⟨o,w,h,P,z,x,m,V,e,q⟩:=h;cases P with
  |nil=>cases e
  |cons p r=>
   cases s with
   |nil=>exact V.elim
   |cons v s=>
    let⟨y,E,n⟩:=Option.bind_eq_some_iff.mp (show(t p w).bind (u r)=a0 z from e)
    show⟨v,s,rfl,o,w,h,p,y,x,m,V.1,E,λl R=>⟨o,y,h,r,z,x,R,V.2,n,q⟩⟩
def QM{u:Mgs}(h:SGs C k X es u)(N:(ZN 0).length=n:=by rfl)(t:(ZN 0).findIdx? (·.1)=a7:=by rfl):γA X (.Tuple es j pos) (gTp n u):=λc=>
 (gT C.K c.K c.calm (h c) N t).imp λv m H Q h=>by
  let⟨o,y,h,p,z,x,R,V,e,q⟩:=h;cases p with
  |tup s=>
   let⟨a,w,rfl,S,r⟩:=V;by_cases l:s.length=n
   ·let E:u s y=a0 z:=by have:(if _=n then u s y else a7)=a0 z:=e;rw[if_pos l]at this;show this
    show⟨a,w,rfl,S,by rw[<-r.length];show l,o,y,h,s,z,x,R,r,E,q⟩
   ·have:(if _=n then u s y else a7)=a0 z:=e;rw[if_neg l]at this;cases this
  |_=>cases e
def PS.imp{st:h_}{t t':TS}(h:PS X st t)(i:∀D z H,t' D z H->t D z H):PS X st t':=λp s z H D I q=>X4 D I<|i D z H q
def PSs.imp{st:i_ h_}{t t':TS}(h:δr st t)(i:∀D z H,t' D z H->t D z H):δr st t':=λp s z H D I q=>X4 D I<|i D z H q
abbrev aG(a b:Ms):Ms:=λδ h=>match a δ h with
 |.nx δ1 h1=>b δ1 h1
 |r=>r
abbrev bP:Ms:=λδ h=>.nx δ h
abbrev aY(i:Nat)(m:Me):Ms:=λδ h=>(Xn h).fl λp h1=>.nx (γd<|a0 p) h1
abbrev jZ(m:Me)(t:Mg):Ms:=λδ h=>(Xn h).fl λp h1=>match t p δ with
 |some δ'=>.nx δ' h1
 |none=>.bad
abbrev iU(m:Me):Ms:=λδ h=>(Xn h).fl λ_ h1=>.nx δ h1
abbrev aP(m:Me):Ms:=λδ h=>(Xn h).fl λp h1=>.rt p h1
abbrev bG(t:Ev->PH->Xa 0)(a b:Ms):Ms:=λδ h=>(t δ h).fl λc h1=>match c with
 |true=>a δ h1
 |false=>b δ h1
variable{oj:g_}
section
variable{st:h_}{rest:i_ h_}{a b:Ms}{m:Me}
def Oa:αv [] bP:=λc=>K'.imp λD y H h=>by let⟨x,z,h,R,r,p⟩:=h;show p.nx R r
def Ob{r:Fl}{b:Ms}{D:Ends}(h:Ys (match r with|.nx δ1 h1=>b δ1 h1|r=>r) D):Ys r { D with nx:=rdS C b D}:=by
 cases r with
 |nx y z=>exact λw s u p t v R=>⟨w,y,z,v,R,γz h⟩
 |rt p z=>exact h
 |bk y z=>exact h
 |ct y z=>exact h
 |exc x z=>exact h
 |bad=>exact h
def L7(h1:Xc st a)(h2:αv rest b):αv (st::rest) (aG a b):=λc=>(GI (h1 c)<|h2 c).imp λD x H h=>by let⟨y,z,h,R,r,p⟩:=h;show⟨y,z,h,R,r,Ob p⟩
def Oc(h1:Xc st a):αv [st] a:=λc=>Ka<|h1 c
def QN(z:X.N.Nodup)(y:c_ e m)(hi:X.N[i]?=a0 x:=by rfl)(w:Ym x:=by first|exact Or.inl rfl|exact Or.inr rfl)(s:WG e (a0<|.Name x pos') pos.line X.env=Z4 0:=by rfl)(f:X.fn x=true\/vv 0=a0 .local:=by first|exact .inl rfl|exact .inr rfl):Xc (.Assign [.Name x pos'] e pos) (aY i m):=λc=>(Nl z hi w (y c) s f).imp λD d H h=>by let⟨n,o,h,u,E,p⟩:=h;refine⟨n,o,h,u,E,(γB 0).imp ?_⟩;rintro v j ⟨l,x,g,P,t,r,R,q⟩;show q.nx r<|(E.mono P t).set R i
def QO{t:Mg}(s:c_ e m)(g:γA X tg t)(S:swapsWithSole [tg] e pos.line X.env=Z4 0:=by rfl)(W:swappedStores [tg] e X.env=pure a7:=by rfl)(h1:(VE [tg] X.env).map (·.2)=[assign tg X.env]:=by rfl):Xc (.Assign [tg] e pos) (jZ m t):=λc=>(Nk (s c) (g c) S W h1).imp λD i H h=>by
 let⟨l,z,h,o,u,p⟩:=h;refine⟨l,z,h,o,u,(γB 0).imp ?_⟩;rintro v j ⟨w,x,h1,P,T,r,V,q⟩;cases E:t x z with
 |none=>rw[E]at q;show q.elim
 |some y=>rw[E]at q;show⟨w,z,h1,x,y,r,u.mono P T,V,E,λn R=>q.nx r R⟩
def QP(E:c_ e m)(s:WG e a7 pos.line X.env=Z4 0:=by rfl):Xc (.Expr e pos) (iU m):=λc=>(Kb (E c) s).imp λD l H h=>by let⟨w,y,h,z,R,p⟩:=h;refine⟨w,y,h,z,R,(γB 0).imp ?_⟩;rintro v o ⟨u,x,n,P,t,r,V,q⟩;show q.nx r<|R.mono P t
def QQ(E:c_ e m):Xc (.Return (a0 e) pos) (aP m):=λc=>(Nh<|E c).imp λD n H h=>by let⟨u,w,h,y,z,p⟩:=h;refine⟨u,w,h,y,z,(γB 0).imp ?_⟩;rintro v s ⟨t,x,o,P,T,r,R,q⟩;show q.rt r R
def T1{as bs:i_ h_}{t:Ev->PH->Xa 0}(w:Yi oj t)(A:αv as a)(hb:αv bs b):Xc (.If oj as bs pos) (bG t a b):=λc=>(PF (w c) (A c)<|hb c).imp λD o H h=>by
 let⟨u,y,h,v,R,p⟩:=h;refine⟨u,y,h,v,R,(bL.fl p).imp ?_⟩;rintro d s ⟨z,x,P,T,r,q⟩;cases d with
 |true=>exact FC ⟨z,y,x,r,βp T,q⟩
 |false=>exact FB ⟨z,y,x,r,βp T,q⟩
end
structure Wk where
 xs:i_ PV
 g:PH->Bool
abbrev G1(C:MC)(J:It)(w:Wk)(φ0:i_ d8)(H0:Hp):Prop:=∀φ H h,φ0<+:φ->Kp H0 H->m_ h->w.g h=true->∀i:Nat,
 (i<w.xs.length->J.go i H/\∀x H',δs H x H'->(∃p,w.xs[i]?=a0 p/\RV C φ H' p x)/\L_ H'/\Xl φ H' h)/\(w.xs.length<=i->β7 H)
@[reducible]noncomputable def Mi:=Ev->PH->Rs Wk
abbrev fR(C:MC)(φ:i_ d8)(H:Hp)(r:Rs Wk)(R:It->Hp->Prop):Prop:=match r with
 |.ok w h=>∀φ' H' J,φ<+:φ'->L_ H'->A3 h->δS φ' H'->R J H'
 |.exc x h=>∀φ' H',φ<+:φ'->L_ H'->A3 h->ZT x
 |.bad=>False
abbrev rdI(C:MC)(m:Mi):TI:=λσ H R=>∃φ δ h,m_ h/\J_ 0/\Zm (Xn h) R
abbrev SI(C:MC)(k:Nat)(X:Cx)(tg iter:g_)(m:Mi):Prop:=vn X->X3 (rdI C m)
abbrev tG(n:Nat)(xs:x_ 0)(h':PH):Bool:=match aH h' n with
 |some ys=>PV.beqs ys xs
 |none=>false
abbrev ofSeq(x:PV)(h:PH):Rs Wk:=match x with
 |.tup xs=>.ok ⟨xs,λ_=>true⟩ h
 |.ref n=>match Xr n with
  |some xs=>.ok ⟨xs,tG n xs⟩ h
  |none=>.bad
 |.fl xs=>.ok ⟨xs,λ_=>true⟩ h
 |_=>.bad
abbrev aV(m:Me):Mi:=λδ h=>(Xn h).bind ofSeq
def QR{m:Me}(h:c_ iter m):Xp (aV m):=λc=>by
 rintro D s σ H R I ⟨J,δ,hh,rh,re,p⟩;let R:rd C m σ H λv t=>∃u x f,J<+:u/\L_ t/\Xl u t f/\RV C u t x v/\fR C u t (ofSeq x f) R:=by
  refine⟨J,δ,hh,rh,re,?_⟩;unfold aV at p;cases e:Xn hh with
  |ok x f=>
   rw[e]at p;refine λs v I F t' gj k9=>⟨s,x,f,F,t',gj,k9,?_⟩;let N:fR C J H (ofSeq x f) R:=p;cases E:ofSeq x f with
   |ok w O=>rw[E]at N;show λl U J P T=>N l U J (F.trans P) (t'.trans T)
   |exc z O=>rw[E]at N;show λl U P T=>N l U (F.trans P) (t'.trans T)
   |bad=>rw[E]at N;show N
  |exc x f=>rw[e]at p;show p
  |bad=>rw[e]at p;show p
 refine thn (h c D s σ H _ I R) λv Y w0=>?_;let⟨x,t,j,r1,u,x',f,p1,t1,Z,W,Q⟩:=w0;unfold ofSeq at Q;cases x' with
 |tup xs=>
  let⟨a,V,rfl,S,A⟩:=W;cases r1
  rw[<-c.K]at S;let⟨F,rv,p,hz⟩:=j.tuple S;refine wpAny_pyIter_tuple (p) <|⟨Y.heap.objs.size,[Y.heap.objs.size],_,_,t,rfl,j.kept λb o e=>W4 e,CO a _,⟨_,XO rfl,rfl,rfl⟩,λb B=>?_,?_⟩
  ·let e:b=Y.heap.objs.size:=by simpa using B
   subst e;show j.fpOk (wj _)<|j.hok.fresh<|wj _
  ·refine Q u t (Itt X.K a) wm (Kp.refl t) Z λl U O P T r _ i=>⟨λg=>?_,λg=>⟨V,T.sq S,by rw[<-A.length];show g⟩⟩;let d:i<V.length:=by rw[<-A.length];show g
   refine⟨⟨V,V[i],T.sq S,by simp[d]⟩,λx I y=>?_⟩;let⟨e,y⟩:=y;subst e;let⟨w,E,q⟩:=A.get<|y V<|T.sq S;show⟨⟨w,E,q.mono P T⟩,βL 0,r⟩
 |ref n=>
  let⟨a,rfl,ha⟩:=W;cases r1
  dsimp only at Q;cases e:aH f n with
  |none=>rw[e]at Q;show Q.elim
  |some xs=>
   rw[e]at Q;let⟨a2,V,M,S,A⟩:=bU Z e;rw[ha]at M;cases M;let⟨F,rv,p,hz⟩:=j.list (by rw[c.K];show S);refine wpAny_pyIter_list p.isList <|⟨Y.heap.objs.size,[Y.heap.objs.size],_,_,t,rfl,j.kept λb o e=>W4 e,xP a _,⟨_,XO rfl,rfl,rfl⟩,λb B=>?_,?_⟩
   ·let e:b=Y.heap.objs.size:=by simpa using B
    subst e;show j.fpOk (wj _)<|j.hok.fresh<|wj _
   ·refine Q u t (Itl X.K a) wm (Kp.refl t) Z λl U O P T r G i=>?_;let G:(match aH O n with|some ys=>PV.beqs ys xs|none=>false)=true:=G
    cases E:aH O n with
    |none=>rw[E]at G;cases G
    |some ys=>
     rw[E]at G;let u3:=PV.beqs_eq G;subst u3;let⟨a3,z,L,D,ru⟩:=bU r E;rw[dW P ha]at L;cases L;rw[<-c.K]at D;refine⟨λg=>?_,λg=>⟨z,D,by rw[<-ru.length];show g⟩⟩;let d:i<z.length:=by rw[<-ru.length];show g
     refine⟨⟨z,z[i],D,by simp⟩,λx I y=>?_⟩;let⟨e,y⟩:=y;subst e;let⟨w,E,q⟩:=ru.get<|y z D;show⟨⟨w,E,q⟩,βL 0,r⟩
 |fl xs=>
  let⟨a,V,rfl,S,A⟩:=W;cases r1
  rw[<-c.K]at S;let⟨F,rv,p,hz⟩:=j.list S.sq;refine wpAny_pyIter_list p.isList <|⟨Y.heap.objs.size,[Y.heap.objs.size],_,_,t,rfl,j.kept λb o e=>W4 e,xP a _,⟨_,XO rfl,rfl,rfl⟩,λb B=>?_,?_⟩
  ·let e:b=Y.heap.objs.size:=by simpa using B
   subst e;show j.fpOk (wj _)<|j.hok.fresh<|wj _
  ·refine Q u t (Itl X.K a) wm (Kp.refl t) Z λl U O P T r _ i=>⟨λg=>?_,λg=>⟨V,(T.sf S).sq,by rw[<-A.length];show g⟩⟩;let d:i<V.length:=by rw[<-A.length];show g
   refine⟨⟨V,V[i],(T.sf S).sq,by simp[d]⟩,λx I y=>?_⟩;let⟨e,y⟩:=y;subst e;let⟨w,E,q⟩:=A.get<|y V (T.sf S).sq;show⟨⟨w,E,q.mono P T⟩,βL 0,r⟩
 |_=>exact Q.elim
abbrev upTo(lo:Int):Nat->x_ 0
 |0=>[]
 |n+1=>.int lo::upTo (lo+1) n
def cU:∀(n)(l),(upTo l n).length=n
 |0,_=>rfl
 |n+1,l=>by simp[upTo,cU n]
def qF:∀(n)(l)(i),i<n->(upTo l n)[i]?=a0 (.int (l+i))
 |0,_,_,h=>by omega
 |n+1,l,0,_=>by simp[upTo]
 |n+1,l,i+1,h=>by
  simp[upTo];rw[qF n _ i ⋯];congr 2;omega
open Classical in
abbrev Em:x_ 0->PH->Rs Wk:=λxs h=>match xs with
 |[.int j]=>if -(2 ^ 62)<=j/\j<2 ^ 62 then .ok ⟨upTo 0 j.toNat,λ_=>true⟩ h else .bad
 |_=>.bad
open Classical in
abbrev HG:x_ 0->PH->Rs Wk:=λxs h=>match xs with
 |[.int i,.int j]=>if -(2 ^ 62)<=i/\i<2 ^ 62/\-(2 ^ 62)<=j/\j<2 ^ 62 then .ok ⟨upTo i (j-i).toNat,λ_=>true⟩ h else .bad
 |_=>.bad
abbrev mQ(ms:Ma):Mi:=λδ h=>(Xi h).bind Em
abbrev qG(ms:Ma):Mi:=λδ h=>(Xi h).bind HG
def HH(lo)(n)(z)(H):G1 C (Itr lo n) ⟨upTo lo n,λ_=>true⟩ z H:=λw u t p T r _ i=>by
 refine⟨λI=>?_,λI=>?_⟩
 ·let h:i<n:=by rw[<-cU n lo];show I
  refine⟨h,λx v y=>?_⟩;let⟨e,y⟩:=y;subst e y;show⟨⟨.int _,qF n lo i h,rfl⟩,βL 0,r⟩
 ·have:=I;rw[cU]at this;show this
def postA.bindI{f:x_ 0->PH->Rs Wk}{R:It->Hp->Prop}(h:Zm (β4 0) R):XC r λi u=>∃y S m,φ<+:y/\L_ u/\Xl y u m/\Zd y u S i/\fR C y u (f S m) R:=by
 cases r with
 |ok a t=>
  refine λn v g P T j V=>⟨n,a,t,P,T,j,V,?_⟩;let p:Zm (f a t) R:=h;cases e:f a t with
  |ok w l=>rw[e]at p;show λx s J q o=>p x s J (P.trans q) (T.trans o)
  |exc z l=>rw[e]at p;show λx s q o=>p x s (P.trans q) (T.trans o)
  |bad=>rw[e]at p;show p
 |exc a t=>exact h
 |bad=>exact h
def PI.imp{t t':TI}(h:X3 t)(i:∀z H R,t' z H R->t z H R):X3 t':=λp s z H R I q=>X4 R I<|i z H R q
open H in
def Od{x:g_}{p:Pos}(a:Xo [x] ms)(hb:("range" : Str)∈C.bs:=by decide)(g:Yu "range" := by rfl)(s:xq [x] X.env=[(false,γr 0)]:=by rfl):SI C k X tg (.Call (.Name "range" p) [x] [] pos) (mQ ms):=λc=>
 (pr1 g (c.bn _ hb) (a c) s).imp λl H R h=>by
  let⟨o,t,h,w,e,p⟩:=h;refine⟨o,t,h,w,e,(postA.bindI p).imp ?_⟩;rintro S y ⟨z,m,n,P,T,r,V,q⟩;unfold Em at q;split at q
  ·let⟨v,rfl,u⟩:=V.one;cases u
   rename_i j;by_cases J:-(2 ^ 62)<=j/\j<2 ^ 62
   ·rw[if_pos J]at q;show⟨J,q z y _ wm (βL 0) r<|HH 0 _ z y⟩
   ·rw[if_neg J]at q;show q.elim
  ·show q.elim
open H in
def Oe{x y:g_}{p:Pos}(ha:Xo [x,y] ms)(hb:("range" : Str)∈C.bs:=by decide)(hg:Yu "range" := by rfl)(hs:xq [x,y] X.env=[(false,γr 0),(false,α3 0)]:=by rfl)(j6:xq [y] X.env=[(false,α3 0)]:=by rfl):
  SI C k X tg (.Call (.Name "range" p) [x,y] [] pos) (qG ms):=λc=>
 (pr2 hg (c.bn _ hb) (ha c) hs j6).imp λσ H R h=>by
  let⟨φ,δ,h,rh,re,p⟩:=h;refine⟨φ,δ,h,rh,re,(postA.bindI p).imp ?_⟩;rintro vs H1 ⟨φ1,xs,h1,p1,t1,rh1,nq,q1⟩;unfold HG at q1;split at q1
  ·let⟨v,w,rfl,rx,ry⟩:=nq.two;cases rx;cases ry;rename_i i j;by_cases hj:-(2 ^ 62)<=i/\i<2 ^ 62/\-(2 ^ 62)<=j/\j<2 ^ 62
   ·rw[if_pos hj]at q1;show⟨hj,q1 φ1 H1 _ wm (βL 0) rh1<|HH i (j-i).toNat φ1 H1⟩
   ·rw[if_neg hj]at q1;show q1.elim
  ·show q1.elim
abbrev iE(g:PH->Bool)(tg:Mg)(body:Ms):x_ 0->Ev->PH->Fl
 |[],δ,h=>if g h=true then .nx δ h else .bad
 |x::xs,δ,h=>if g h=true then(match tg x δ with
  |none=>.bad
  |some δ1=>match body δ1 h with
   |.nx δ2 h2=>Zk xs δ2 h2
   |.ct δ2 h2=>Zk xs δ2 h2
   |.bk δ2 h2=>.nx δ2 h2
   |r=>r) else .bad
abbrev dH(mi:Mi)(tg:Mg)(body:Ms):Ms:=λδ h=>(mi δ h).fl λw h1=>αK w.xs δ h1
def fR.fl{r:Rs Wk}{f:Wk->PH->Fl}{D:Ends}(h:Ys (r.fl f) D):Zm r λJ y=>∃z w u,φ<+:z/\L_ y/\Xl z y u/\δS z y/\cB C z y (f w u) D:=by
 cases r with
 |ok a v=>exact λx s J p t R W=>⟨x,a,v,p,t,R,W,γz h⟩
 |exc a v=>exact h
 |bad=>exact h
def fR.imp{r:Rs Wk}{Q Q':It->Hp->Prop}(h:Zm r Q)(i:∀v z,Q v z->Q' v z):Zm r Q':=by
 cases r with
 |ok a x=>exact λy z J p t R w=>i J z (h y z J p t R w)
 |exc a x=>exact h
 |bad=>exact h
def drop_cons{α:Type}{xs:ZH 0}{p:α}(h:xs[i]?=a0 p):xs.drop i=p::xs.drop (i+1):=by let⟨H,z⟩:=vz.mp h;rw[zg H,z]
variable{H0:Hp}{J:It}{body:Ms}{φ0:i_ d8}
def L8{w:Wk}{tg:Mg}{D:Ends}{σ:St}(F:δS φ0 H0)(f:Xl φ0 H0 h)(E:RE C φ0 H0 δ σ)(p:cB C φ0 H0 (αK w.xs δ h) D):
  ∃W:Nat->Nat->St->Hp->Prop,(∃m,W 0 m σ H0)/\∀i m σ H,W i m σ H->
   (β7 H/\αQ H)\/(J.go i H/\∃N,(∀t u,N t u->∃I,I<m/\W (i+1) I t u)/\∀x u,δs H x u->rdG C tg x σ u λc B=>rdS C body { D with nx:=N,ct:=N,bk:=D.nx} c B):=by
 refine⟨λi m σ H=>m=w.xs.length-i/\i<=w.xs.length/\∃v δ h,φ0<+:v/\Kp H0 H/\Xl v H h/\RE C v H δ σ/\cB C v H (αK (w.xs.drop i) δ h) D,
  ⟨w.xs.length,by simp,zk _,φ0,δ,h,wm,βL 0,f,E,by rw[zx];show p⟩,?_⟩
 rintro i m σ H ⟨rfl,hi,v,δ,h,a,Y,f,E,p⟩;by_cases l:i<w.xs.length
 ·let hd:w.xs.drop i=w.xs[i]::w.xs.drop _:=drop_cons (by simp);rw[hd]at p;unfold iE at p;by_cases G:w.g h=true
  ·rw[if_pos G]at p;let⟨k,S⟩:=(F v H h a Y f G i).1 l;refine .inr ⟨k,λt u=>∃v δ h,φ0<+:v/\Kp H0 u/\Xl v u h/\RE C v u δ t/\cB C v u (αK (w.xs.drop _) δ h) D,λt u ⟨L,O,X,q⟩=>⟨w.xs.length-(i+1),Nat.sub_lt_sub_left l<|Vp i,rfl,l,L,O,X,q⟩,λx u y=>?_⟩;let⟨⟨q,K,rv⟩,Z,d⟩:=S x u y;let Q:w.xs[i]=q:=by simp_all
   rw[Q]at p;cases V:tg q δ with
   |none=>rw[V]at p;show p.elim
   |some o=>
    rw[V]at p;dsimp only at p;refine⟨v,δ,h,q,o,d,E.mono wm Z,rv,V,λc U=>⟨v,o,h,d,U,?_⟩⟩;let p:=cB.weak wm Z p;cases b:body o h with
    |nx s j=>rw[b]at p;show λn M A P T R r=>⟨n,s,j,a.trans P,(Y.trans Z).trans T,R,r,cB.weak P T p⟩
    |ct s j=>rw[b]at p;show λn M A P T R r=>⟨n,s,j,a.trans P,(Y.trans Z).trans T,R,r,cB.weak P T p⟩
    |bk s j=>rw[b]at p;show p
    |rt z j=>rw[b]at p;show p
    |exc z j=>rw[b]at p;show p
    |bad=>rw[b]at p;show p
  ·rw[if_neg G]at p;show p.elim
 ·let e:=Nat.le_antisymm hi<|Nat.le_of_not_lt l;subst e;rw[List.drop_length]at p;unfold iE at p;by_cases G:w.g h=true
  ·rw[if_pos G]at p;show .inl ⟨(F v H h a Y f G _).2<|wj _,p.nx f E⟩
  ·rw[if_neg G]at p;show p.elim
variable{mi:Mi}
def QS{body:i_ h_}{t:Mg}{mb:Ms}(hi:Xp mi)(g:γA X tg t)(hb:αv body mb)(P:PassesOwn (b8 X) X.A X.env X.xe:=by show PassesOwn.never)(s:∀x,W1 x=pure x:=by intro _;rfl):Xc (.For tg iter body [] pos) (dH mi t mb):=λc=>(Np P c.calm (hi c) (g c) (hb c) s).imp λD m H h=>by let⟨v,y,h,R,e,p⟩:=h;refine⟨v,y,h,R,e,(fR.fl p).imp ?_⟩;rintro J o ⟨u,w,n,z,T,r,W,q⟩;show L8 W r (e.mono z T) q
variable{C:MC}{k:Nat}{X:Cx}
abbrev dI(js:i_ (YJ 0))(δ:Ev):Ev:=js.map λo=>match o with
 |none=>a7
 |some j=>Ai δ j
def Eo:∀{σ:St}{i:Nat}{v:V},σ[i]?=a0 (a0 v)->De σ i=a0 v
 |[],_,_,h=>by simp at h
 |x::_,0,v,h=>by
  have:x=a0 v:=by simpa using h
  show this
 |_::r,n+1,v,h=>Eo (σ:=r) (cA h)
def RE.cap{σ:St}(r:J_ 0)(js):γw (αV 0) (Z8 0):=by
 refine⟨by simp[dI,mF],λi p e=>?_⟩;unfold dI at e;unfold mF;rw[xf]at e⊢;cases q:js[i]? with
 |none=>rw[q]at e;cases e
 |some o=>
  rw[q]at e;cases o with
  |none=>cases e
  |some j=>let⟨v,h,R⟩:=r.2 j p<|uZ<|yi e;show⟨v,by change a0 (De σ j)=_;rw[Eo h],R⟩
abbrev mR(g:PH->Bool)(tg:Mg)(tst:Ev->PH->Xa 0)(elt:Me)(δ0:Ev)(n:Nat):x_ 0->PH->W_ 0
 |[],h=>if g h=true then .ok (.ref n) h else .bad
 |x::xs,h=>if g h=true then(match tg x δ0 with
  |none=>.bad
  |some δ1=>(tst δ1 h).bind λb h1=>match b with
   |false=>mR g tg tst elt δ0 n xs h1
   |true=>(elt δ1 h1).bind λp h2=>match dG h2 n with
    |some ys=>if ys.length<w9 then mR g tg tst elt δ0 n xs (h2.set n<|.lst<|ys++[p]) else .bad
    |none=>.bad) else .bad
abbrev bB(js:i_ (YJ 0))(mi:Mi)(tg:Mg)(tst:Ev->PH->Xa 0)(elt:Me):Me:=λδ h=>(mi δ h).bind λw h1=>ZX (αV 0) h1.length w.xs<|h1++[.lst []]
abbrev dQ:Ev->PH->Xa 0:=λ_ h=>.ok true h
abbrev STs(C:MC)(k:Nat)(X:Cx)(es:i_ g_)(m:Ev->PH->Xa 0):Prop:=vn X->PTs X es (rdB C m)
def Of:δT X [] dQ:=λc i s z H Q I h=>by let⟨x,y,h,r,e,p⟩:=h;show KG i s z H Q I<|p.val r
def Og{m:Ev->PH->Xa 0}(h:Yi e m):δT X [e] m:=λc=>KH<|h c
def fR.bind{r:Rs Wk}{f:Wk->PH->W_ 0}{Q:VK}(h:p_ (β4 0) Q):Zm r λJ y=>∃z w u,φ<+:z/\L_ y/\Xl z y u/\δS z y/\XY z y (f w u) Q:=by
 cases r with
 |ok a v=>exact λx s J p t R W=>⟨x,a,v,p,t,R,W,Z_ h⟩
 |exc a v=>exact h
 |bad=>exact h
variable{elt:Me}{tst:Ev->PH->Xa 0}
def HI{w:Wk}{tg:Mg}{Q:VK}{σ:St}(A:δS φ0 H0)(y:Xl φ0 H0 h)(re:RE C φ0 H0 δ σ)(p:XY φ0 H0 (ZX (αV 0) h.length w.xs<|h++[.lst []]) Q)(a:d8)(c:H0 a=a7):
  ∃W:Nat->Nat->Hp->Prop,(∃m,W 0 m<|upd H0 a<|.lst [])/\∀i m d,W i m d->
   (β7 d/\Q (.ref a) d)\/(J.go i d/\∃N,(∀s,N s->∃D,D<m/\W (i+1) D s)/\∀x b,δs d x b->MG js (rdG C tg) (rdB C tst) (rd C elt) σ a x b N):=by
 let n:(φ0++[a])[h.length]?=a0 a:=by rw[<-y.len];simp
 refine⟨λi m H=>m=w.xs.length-i/\i<=w.xs.length/\∃t u,(φ0++[a])<+:t/\Kp H0 H/\Xl t H u/\XY t H (ZX (αV 0) h.length (w.xs.drop i) u) Q,
  ⟨w.xs.length,by simp,zk _,φ0++[a],h++[.lst []],wm,Kp.new c,y.new (o:=.lst []) c ⟨[],aJ,trivial⟩,by rw[zx];show post.weak (zp _ _) (Kp.new c) p⟩,?_⟩
 rintro i m H ⟨rfl,hi,t,u,V,M,r,p⟩;let P:=(zp _ _).trans V;by_cases l:i<w.xs.length
 ·let hd:w.xs.drop i=w.xs[i]::w.xs.drop (i+1):=drop_cons (by simp);rw[hd]at p;unfold mR at p;by_cases G:w.g u=true
  ·rw[if_pos G]at p;let⟨go,E⟩:=(A t H u P M r G i).1 l;refine .inr ⟨go,λs=>∃t u,(φ0++[a])<+:t/\Kp H0 s/\Xl t s u/\XY t s (ZX (αV 0) h.length _ u) Q,λs ⟨A,u,q⟩=>⟨w.xs.length-(i+1),Nat.sub_lt_sub_left l<|Vp i,rfl,l,A,u,q⟩,λx s y=>?_⟩;let⟨⟨q,eq,rv⟩,I,U⟩:=E x s y;let D:w.xs[i]=q:=by simp_all
   rw[D]at p;cases B:tg q (αV 0) with
   |none=>rw[B]at p;show p.elim
   |some j=>
    rw[B]at p;refine⟨t,αV 0,u,q,j,U,((re.mono P<|M.trans I).cap js),rv,B,λσ2 R=>⟨t,j,u,U,R,(bL.bind<|post.weak wm I p).imp ?_⟩⟩;rintro b H5 ⟨L,v,K,X,T,z⟩;cases b with
    |false=>exact FB ⟨L,v,V.trans K,(M.trans I).trans X,T,z⟩
    |true=>
     refine FC ⟨L,j,v,T,R.mono K X,(post.bind z).imp ?_⟩;rintro v H6 ⟨E,z,e,p6,t6,S,k,f⟩;cases F:dG e h.length with
     |none=>rw[F]at f;show f.elim
     |some ys=>
      rw[F]at f;let⟨hz,f⟩:=f.ite;let Y:=dW ((V.trans K).trans p6) n;let⟨vs,Z,O⟩:=S.at' h.length a _ Y (jY F);refine⟨vs,Z,by rw[<-O.length];show hz,E,e.set h.length (.lst (ys++[z])),(V.trans K).trans p6,(((M.trans I).trans X).trans t6).trans (Kp.lst Z),
       S.write Y (by rw[Z];trivial) ⟨vs++[v],aJ,(O.snoc k).mono wm (Kp.lst Z)⟩,post.weak wm (Kp.lst Z) f⟩
  ·rw[if_neg G]at p;show p.elim
 ·let e:=Nat.le_antisymm hi<|Nat.le_of_not_lt l;subst e;rw[List.drop_length]at p;unfold mR at p;by_cases G:w.g u=true
  ·rw[if_pos G]at p;show .inl ⟨(A t H u P M r G _).2<|wj _,ZU ⟨a,rfl,dW V n⟩⟩
  ·rw[if_neg G]at p;show p.elim
def Ep{tg:Mg}{σ:St}{Q:VK}(h:rd C (γf tg tst elt) σ H Q):BE js (rdI C mi) (rdG C tg) (rdB C tst) (rd C elt) σ H Q:=by let⟨y,z,h,R,e,p⟩:=h;refine⟨y,z,h,R,e,(fR.bind p).imp ?_⟩;rintro J v ⟨x,w,u,P,t,r,W,q⟩;show λc a=>HI W r (e.mono P t) q c a
variable{tt:Ev->PH->Xa 0}
def Oh{elt:g_}{g:Mg}(E:X.env.scope=os)(e:X.N=oN)(o:XX N js=true)(hi:Xp mi)(G:∀y f S z,γA (αH z) tg g)(t:∀y f S z,δT (αH z) ifs tt)(w:∀y f S z,SE C k (αH z) elt me)(v:∀x,W1 x=pure x:=by intro _;rfl):c_ (.ListComp elt [⟨tg,iter,ifs,0⟩] sc pos) (γf g tt me):=λc=>(KI c.calm E e o (hi c) (λa b s H=>G a b s H<|c.comp sc N a b s H) (λa b s H=>t a b s H<|c.comp sc N a b s H) (λa b s H=>w a b s H<|c.comp sc N a b s H) v).imp λu H Q h=>Ep h
def G2{elt:g_}{g:Mg}(q:X.N.Nodup)(u:X.N[i]?=a0 x)(l:vv 0=a0 .local)(E:X.env.scope=os)(e:X.N=oN)(O:XX N js=true)(hi:Xp mi)(G:∀y f S z,γA (αH z) tg g)(T:∀y f S z,δT (αH z) ifs tt)(o:∀y f S z,SE C k (αH z) elt me)(w:WG (.ListComp elt [⟨tg,iter,ifs,0⟩] sc pos) (a0<|.Name x pos') cq.line X.env=pure true:=by rfl)(n:∀x,W1 x=pure x:=by intro _;rfl):Xc (.Assign [.Name x pos'] (.ListComp elt [⟨tg,iter,ifs,0⟩] sc pos) cq) (aY i<|bB js mi g tt me):=λc=>(Dg q u l c.calm E e O (hi c) (λa b s H=>G a b s H<|c.comp sc N a b s H) (λa b s H=>T a b s H<|c.comp sc N a b s H) (λa b s H=>o a b s H<|c.comp sc N a b s H) w n).imp λD U H h=>by let⟨Z,d,h,m,t,p⟩:=h;refine Ep ⟨Z,d,h,m,t,(γB 0).imp ?_⟩;rintro v W ⟨Y,x,V,P,j,r,R,Q⟩;show Q.nx r<|(t.mono P j).set R i
abbrev mFn(N:Nat)(body:Ms):Fn:=λargs h=>match body (args.map a0++Wc (N-args.length) a7) h with
 |.nx _ h'=>.ok .non h'
 |.rt p h'=>.ok p h'
 |.exc x h'=>.exc x h'
 |_=>.bad
def RE.start{ps:x_ 0}{vs:i_ V}(r:c9 ps vs)(N):γw (ps.map a0++Wc (N.length-ps.length) a7) (start N vs):=by
 unfold _L.start;refine⟨by simp[r.length],λi p e=>?_⟩;by_cases h:i<ps.length
 ·rw[xc<|cA h,xf]at e;rw[xc<|by simpa[<-r.length] using h,xf]
  cases q:ps[i]? with
  |none=>rw[q]at e;cases e
  |some x=>
   rw[q]at e;cases e
   let⟨v,z,R⟩:=r.at q;show⟨v,by rw[z];rfl,R⟩
 ·rw[wz<|cA h]at e;rw[List.getElem?_replicate]at e;split at e
  ·cases e
  ·cases e
def MP{st:h_}{f:d8}(X:∀u H x,¬ C.ex u H x)(b:∀x∈C.bs,mg x=a7)(F:Fun C.K x qual st f fd)(S:pT N ps (aS st))(hb:∀(c)(A)(o)(s)(H)(E),SSs C k (wV CX0 P C.w C.K mg base N qual (aS st) f c A o s H E).nox (bY st) body):
  cI P C.w C.K mg base CX0 (k+1) f fd ps (Yt ps.length<|mFn N.length body):=by
 refine F.ok S (λV H Q E h=>?_)<|λc A o s H V Q E i h=>?_
 ·let⟨u,h,n,m,R,l,_⟩:=h;rw[<-R.length];show l
 ·let⟨u,h,n,m,R,l,p⟩:=h;refine⟨_,hb c A o s H E ⟨rfl,rfl,i,b,rfl⟩,u,n.map a0++Wc _ a7,h,m,RE.start R N,?_⟩;unfold mFn at p;cases e:body (n.map a0++Wc _ a7) h with
  |nx j v=>rw[e]at p;show λy d t q T r g=>p y .non t q T r rfl
  |rt z v=>rw[e]at p;show p
  |exc z v=>rw[e]at p;show λy t q T r=>(X _ _ _<|p y t q T r).elim
  |bk j v=>rw[e]at p;show p.elim
  |ct j v=>rw[e]at p;show p.elim
  |bad=>rw[e]at p;show p.elim
def Oi{f:Fn}{Q:VK}{E:XK}(O:Ha H)(u:ZV (Yc 0))(F:∃h,f [.fl<|ns.map PV.int] []=.ok (.bl true) h)(w:∀y,Q (.bl true) y):Yt 1 f [.ref a] H Q E:=by
 let r:∀ns:Zg 0,Zd [] H (ns.map PV.int) (Yc 0):=by
  intro ns
  induction ns with
  |nil=>trivial
  |cons n ns i=>exact⟨rfl,i⟩
 let s:SqF C.K H a (Yc 0):=by
  rcases u with(h|⟨o,h⟩)|h
  ·rcases O a with z|⟨o,X,z⟩
   ·rw[z]at h;cases h
   ·rw[z]at h;cases h
  ·show .inl ⟨o,h⟩
  ·show .inr h
 refine⟨[],[],[.fl<|ns.map _],⟨rfl,by simp,λn b B x q=>by simp at x⟩,⟨⟨a,_,rfl,s,r ns⟩,trivial⟩,rfl,?_⟩;let⟨h,e⟩:=F;rw[e];intro t v y _ _ _ R;cases R
 show w y
variable{C:MC}{k:Nat}{X:Cx}
abbrev tyN(x:PV)(h:PH):jh String:=match x with
 |.non=>a0 "NoneType"
 |.bl _=>a0 "bool"
 |.int _=>a0 "int"
 |.str _=>a0 "str"
 |.tup _=>a0 "tuple"
 |.fl _=>a0 "list"
 |.ref n=>match h[n]? with
  |some (.lst _)=>a0 "list"
  |some (.dK _)=>a0 "dict"
  |_=>a7
 |.ty _=>a7
abbrev yM(t c:String):Bool:=t == c || (t == "bool" && c == "int")
abbrev known:i_ String:=["int","str","bool","list","tuple","dict"]
def Oj{t c:String}(H:t∈"NoneType" :: known)(h:c∈known):PySem.W.kitOne K (.type t) (.type c)=a0 (yM t c):=by simp[known]at H h;rcases H with rfl|rfl|rfl|rfl|rfl|rfl|rfl <;> rcases h with rfl|rfl|rfl|rfl|rfl|rfl <;> rfl
abbrev G3:x_ 0->PH->W_ 0:=λxs h=>match xs with
 |[x,.ty c]=>match tyN x h with
  |some t=>if c∈known then .ok (.bl<|yM t c) h else .bad
  |none=>.bad
 |_=>.bad
def HJ(l:X.K=C.K):δu (.builtin "isinstance") (λm H Q=>∃x c t b,m=[x,.ty c]/\(qV C.K H x (.type t)\/(∃a V,x=.ref a/\SqT C.K H a V/\t="tuple")\/(∃a V,x=.ref a/\ZV V/\t="list"))/\PySem.W.kitOne C.K (.type t) (.type c)=a0 b/\Q (.bl b) H):=by
 rintro P s g H m U Q I r ⟨x,c,t,b,rfl,y,e,q⟩;let⟨u,v,rfl,R,j⟩:=vals2 r;cases j
 rw[<-l]at e y;rcases y with y|⟨a,V,rfl,S,rfl⟩|⟨a,V,rfl,S,rfl⟩
 ·show Fv I R y e λT=>⟨.bl b,H,I.tok T,rfl,q⟩
 ·cases R
  let⟨i,_,⟨o,w,p,_⟩,_⟩:=I.tuple S;show γk ⟨o,w,p⟩ e (λz=>nomatch z) λT=>⟨.bl b,H,I.tok T,rfl,q⟩
 ·cases R
  let⟨i,_,⟨o,n,w,p,_⟩,_⟩:=I.list S;show Zq ⟨o,w,p⟩ e (λz=>nomatch z) λT=>⟨.bl b,H,I.tok T,rfl,q⟩
open H in
def Au:Yj (.builtin "isinstance") G3:=λc=>(HJ c.K).imp λs H Q h=>by
 let⟨l,h,P,q,V,p⟩:=h;unfold G3 at p;split at p
 ·rename_i x n;let⟨v,w,rfl,r,Y⟩:=V.two;cases Y
  split at p
  ·rename_i t T;let⟨N,p⟩:=p.ite;let f:∀{t:String},t∈"NoneType" :: known->XY l H (.ok (.bl<|yM t n) h) Q->PySem.W.kitOne C.K _ _=a0 _/\Q (.bl _) H:=λM p=>⟨Oj M N,p.val q rfl⟩;unfold tyN at T;cases x with
   |non=>cases T;cases r;show⟨_,n,_,_,rfl,.inl .non,f (by decide) p⟩
   |bl b=>cases T;cases r;show⟨_,n,_,_,rfl,.inl<|.bl _,f (by decide) p⟩
   |int b=>cases T;cases r;show⟨_,n,_,_,rfl,.inl<|.int _,f (by decide) p⟩
   |str b=>cases T;cases r;show⟨_,n,_,_,rfl,.inl<|.str _,f (by decide) p⟩
   |tup o=>
    cases T
    let⟨a,s,rfl,S,R⟩:=r;show⟨_,n,_,_,rfl,.inr<|.inl ⟨a,s,rfl,S,rfl⟩,f (by decide) p⟩
   |fl o=>
    cases T
    let⟨a,s,rfl,S,R⟩:=r;show⟨_,n,_,_,rfl,.inr<|.inr ⟨a,s,rfl,S.sq,rfl⟩,f (by decide) p⟩
   |ref m=>
    let⟨a,rfl,A⟩:=r;dsimp only at T;split at T
    ·rename_i o u;cases T
     let⟨s,y,R⟩:=q.at' m a _ A u;show⟨_,n,_,_,rfl,.inl<|.lst y,f (by decide) p⟩
    ·rename_i o u;cases T
     let⟨s,y,R⟩:=q.at' m a _ A u;show⟨_,n,_,_,rfl,.inl<|.dK y,f (by decide) p⟩
    ·cases T
   |ty z=>cases T
  ·show p.elim
 ·show p.elim
abbrev mMt(ty:PV->PH->Bool)(g:PV->x_ 0->PH->W_ 0)(mo:Me)(ms:Ma):Me:=λδ h=>(mo δ h).bind λx h1=>if ty x h1=true then(Xi h1).bind λps h2=>g x ps h2 else .bad
abbrev xK(ty:PV->PH->Bool)(g:PV->x_ 0->PH->W_ 0)(mo:Me):Me:=λδ h=>(mo δ h).bind λx h1=>if ty x h1=true then g x [] h1 else .bad
abbrev rM(C:MC)(g:PV->x_ 0->PH->W_ 0):V->i_ V->Hp->VK->Prop:=λx xs H Q=>∃φ h p ps,m_ h/\Xq x/\c9 ps xs/\p_ (g p ps h) Q
abbrev MtS(C:MC)(k:Nat)(X:Cx)(T:String)(ty:PV->PH->Bool)(id:String)(g:PV->x_ 0->PH->W_ 0):Prop:=vn X->δA (rM C g)/\∀φ H h p x,m_ h->Xq x->ty p h=true->tyV C.K T x H
variable{ab apos:Pos}{mo:Me}{name:Str}{ty:PV->PH->Bool}
def T2{o:g_}{id:String}{g:PV->x_ 0->PH->W_ 0}(A:PlainAttrs T)(s:γm id)(t:typeOf (.builtin id)=pure (.type "method_descriptor"))(m:MtS C k X T ty id g)(O:c_ o mo)(a:Xo (e::es) ms)(b:αs (Yd 0)=Yd 0:=by rfl)(f:((YU (xq (e::es) X.env)).all (λx=>!x.1)&&(γn (keywordEach [] X.env)).all (λx=>x.1.isSome)
   && decide ((e::es).length+([]:αY 0).length+(if([]:αY 0).isEmpty then 0 else 1)<30))=true:=by rfl)(i:(apos.endLine == ab.line)=true:=by rfl)(S:xq (e::es) X.env=(false,xl 0)::Mm 0:=by rfl)(l:(YU (Mm 0)).any (·.1)=false:=by rfl):
  c_ (.Call (.Attribute o name apos) (e::es) [] ab) (mMt ty g mo ms):=λc=>(Q3 A s t (m c).1 (O c) (a c) b f i S l).imp λF H Q h=>by
 let⟨J,n,h,U,E,p⟩:=h;refine⟨J,n,h,U,E,(Yh 0).imp ?_⟩;rintro v j ⟨z,x,u,P,N,r,R,q⟩;let⟨Z,q⟩:=q.ite;refine⟨by rw[c.K];show(m c).2 z j u x v r R Z,z,n,u,r,E.mono P N,(postA.bind q).imp ?_⟩;rintro G I ⟨w,L,d,Y,M,y,V,W⟩;show⟨w,d,x,L,y,R.mono Y M,V,W⟩
def MtR.imp{id:String}{r r':V->i_ V->Hp->VK->Prop}(h:δA r)(i:∀x S H Q,r' x S H Q->r x S H Q):δA r':=λp s y H x S v u Q I z R q=>h p s y H x S v u Q I z R<|i x S H Q q
abbrev isL(x:PV)(h:PH):Bool:=match x with
 |.ref n=>(dG h n).isSome
 |_=>false
def Ol{x:V}(r:m_ h)(v:Xq x)(e:isL p h=true):tyV C.K "list" x H:=by
 cases p with
 |ref n=>
  let⟨a,rfl,A⟩:=v;let⟨S,y⟩:=y4.mp (show(dG h n).isSome=true from e)
  let⟨s,z,R⟩:=Zj a _ A<|jY y;show .inl ⟨rfl,s,SqL.of z⟩
 |_=>cases e
abbrev onL(f:x_ 0->x_ 0->jh (PV×x_ 0)):PV->x_ 0->PH->W_ 0:=λx ps h=>match x with
 |.ref n=>match dG h n with
  |some xs=>match f xs ps with
   |some (r,ys)=>.ok r (WY<|.lst ys)
   |none=>.bad
  |none=>.bad
 |_=>.bad
def Om{f:x_ 0->x_ 0->jh (PV×x_ 0)}{x:V}{xs:i_ V}{Q:VK}(h:rM C (onL f) x xs H Q):∃z l s y S r Z,x=.ref l/\H l=a0 (.lst S)/\Zd z H y S/\Zd z H s xs/\f y s=a0 (r,Z)/\
  ∀(v:V)(W),RV C z H r v->Zd z H Z W->Q v (t_ l<|.lst W):=by
 let⟨z,h,p,s,R,j,q,o⟩:=h;unfold onL at o;cases p with
 |ref n=>
  let⟨a,rfl,A⟩:=j;dsimp only at o;cases e:dG h n with
  |none=>rw[e]at o;show o.elim
  |some y=>
   rw[e]at o;dsimp only at o;let⟨S,u,t⟩:=R.at' n a _ A<|jY e;cases E:f y s with
   |none=>rw[E]at o;show o.elim
   |some i=>rw[E]at o;let⟨r,Z⟩:=i;show⟨z,a,s,y,S,r,Z,rfl,u,t,q,E,λv W m w=>o.lset R A u w m⟩
 |_=>exact o.elim
abbrev bA:x_ 0->x_ 0->jh (PV×x_ 0):=λxs ps=>match ps with
 |[p]=>if xs.length<w9 then a0 (.non,xs++[p]) else a7
 |_=>a7
open H in
def G4:MtR X "list.append" (rM C<|onL bA):=MtR.imp (xX) λx S H Q h=>by
 let⟨u,l,p,y,V,r,w,rfl,z,a,s,e,q⟩:=Om h;unfold bA at e;split at e
 ·split at e
  ·rename_i Z;cases e
   let⟨v,rfl,R⟩:=s.one;show⟨l,V,v,rfl,rfl,z,by rw[<-a.length];show Z,q .non _ rfl<|a.snoc R⟩
  ·cases e
 ·cases e
def HK:MtS C k X "list" isL "list.append" (onL bA):=λc=>⟨G4,λz H h p x r v e=>Ol r v e⟩
abbrev QT(K:wc):R2:=λx y H Q=>∃a b ys,x=.ref a/\y=.ref b/\WW a []/\WW b ys/\Q (.ref b) H
def L9:A6 (UO .Add) (QT X.K):=by
 rintro p s W H x y v u Q I g Y ⟨a,b,Z,rfl,rfl,m,B,q⟩;cases g
 cases Y
 let⟨T,R,P,_⟩:=I.tuple m;let⟨i,e,j,_⟩:=I.tuple B;cases R
 let⟨⟨S,r,A,f⟩,O,z,n,w⟩:=id P;let⟨⟨L,D,t,l⟩,o,c,N,d⟩:=id j;simp only at z w c d;subst z w c d;show concat_meets ⟨_,O,rfl⟩ ⟨_,o,rfl⟩ noFill_tuple_add seq_tuple_add PySem.F.slot_tuple_add PySem.F.entry_tuple_add (Zs _)
   (tuple_addW0 a b ([]:Xu 0).toArray _ n N r D f l<|by simp) ⟨O,o,⟨.ref b,H,I,rfl,q⟩⟩
abbrev aL:PV->PV->PH->W_ 0:=λx y h=>match x,y with
 |.tup [],.tup ys=>.ok (.tup ys) h
 |x,y=>Hx x y h
def On:A2 (UO .Add) aL:=λc=>((Qt c).or (by have:=L9 (X:=X);rw[c.K]at this;show this)).imp λx y H Q h=>by
 let⟨z,h,p,q,r,R,Y,o⟩:=h;unfold aL at o;split at o
 ·let⟨a,v,rfl,S,A⟩:=R;let⟨b,u,rfl,s,B⟩:=Y;have:v=[]:=by cases v <;> first|rfl|exact A.elim
  subst this;show .inr ⟨a,b,u,rfl,rfl,S,s,γy ⟨b,u,rfl,s,B⟩⟩
 ·show .inl ⟨z,h,p,q,r,R,Y,o⟩
open PySem
@[irreducible]def Rs.W{α:Type}(r:Rs α)(Q:α->PH->Prop):Prop:=match r with
 |.ok a h=>Q a h
 |_=>False
structure FE where
 nx:Ev->PH->Prop
 rt:PV->PH->Prop
 bk:Ev->PH->Prop:=λ_ _=>False
 ct:Ev->PH->Prop:=λ_ _=>False
@[irreducible]def Fl.W(r:Fl)(E:FE):Prop:=match r with
 |.nx δ h=>YE h
 |.rt p h=>E.rt p h
 |.bk δ h=>E.bk δ h
 |.ct δ h=>E.ct δ h
 |_=>False
@[irreducible]def Lt(b:Ms)(E:FE)(δ:Ev)(h:PH):Prop:=(b δ h).W E
variable{ys:x_ 0}{z:Str}{h1:PH}{args:x_ 0}
section
unseal Rs.W Fl.W Lt
variable{α β:Type}{Q:α->PH->Prop}{E:FE}
@[simp]theorem BS{a:α}:(Rs.ok a h).W Q=Q a h:=(rfl)
@[simp]theorem TN:(Fl.nx δ h).W E=YE h:=(rfl)
@[simp]theorem TQ:(Fl.rt p h).W E=E.rt p h:=(rfl)
@[simp]theorem rD{Q:β->PH->Prop}{r:Rs α}{f:α->PH->Rs β}:(β4 0).W Q=r.W λa h=>(f a h).W Q:=by cases r <;> rfl
@[simp]theorem G5{r:Rs α}{f:α->PH->Fl}:(r.fl f).W E=r.W λa h=>(f a h).W E:=by cases r <;> rfl
def HL{Q':α->PH->Prop}{r:Rs α}(h:r.W Q)(i:∀a h,Q a h->Q' a h):r.W Q':=by cases r <;> first|exact i _ _ h|exact h
@[simp]theorem Tw{c:Prop}[Decidable c]{x y:Rs α}:(if c then x else y).W Q=if c then x.W Q else y.W Q:=by split <;> rfl
@[simp]theorem Tx:(Rs.bad:Rs α).W Q=False:=(rfl)
@[simp]theorem T3:Fl.bad.W E=False:=(rfl)
def gQ{r:Rs α}(w:r.W Q):∃a h,r=.ok a h/\Q a h:=by
 cases r with
 |ok a h=>exact⟨a,h,rfl,w⟩
 |exc=>exact w.elim
 |bad=>exact w.elim
variable{a b:Ms}{m mc:Me}{t ta tb:Ev->PH->Xa 0}{g g':PV->PV->PH->W_ 0}
def Dq:(aG a b δ h).W E=(a δ h).W { E with nx:=λδ h=>(b δ h).W E}:=by
 change(match a δ h with|.nx δ1 h1=>b δ1 h1|r=>r).W E=_
 cases a δ h <;> rfl
def aD:(aG a b δ h).W E=(a δ h).W { E with nx:=Lt b E}:=by
 change(match a δ h with|.nx δ1 h1=>b δ1 h1|r=>r).W E=_
 cases a δ h <;> rfl
def now{b:Ms}(w:(b δ h).W E):Lt b E δ h:=w
@[simp]theorem Tz:(bP δ h).W E=YE h:=(rfl)
@[simp]theorem QU:(aY i m δ h).W E=(Xn h).W λp h=>E.nx (γd<|a0 p) h:=by simp[aY]
@[simp]theorem TB{t:Mg}:(jZ m t δ h).W E=(Xn h).W λp h=>∃δ',t p δ=a0 δ'/\E.nx δ' h:=by
 unfold jZ;cases m δ h with
 |ok p h1=>
  change(match t p δ with|some δ'=>Fl.nx δ' h1|none=>.bad).W E=∃δ',t p δ=a0 δ'/\E.nx δ' h1
  cases t p δ <;> simp[Fl.W]
 |exc=>rfl
 |bad=>rfl
@[simp]theorem TC:(iU m δ h).W E=(Xn h).W λ_ h=>YE h:=by simp[iU]
@[simp]theorem sJ:(aP m δ h).W E=(Xn h).W E.rt:=by simp[aP]
@[simp]theorem cD:(bG t a b δ h).W E=(t δ h).W λc h=>if c=true then(a δ h).W E else(b δ h).W E:=by
 unfold bG;rw[G5];congr;funext c h;cases c <;> simp
@[simp]theorem TF:mV i δ h=match Ai δ i with|some p=>.ok p h|none=>.bad:=rfl
@[simp]theorem HM:mC p δ h=.ok p h:=rfl
@[simp]theorem Er:aB g ma mb δ h=(ma δ h).bind λx h1=>(mb δ h1).bind λy h2=>g x y h2:=rfl
@[simp]theorem T4{g:PV->PH->W_ 0}:mUn g ma δ h=(ma δ h).bind g:=rfl
@[simp]theorem RN:aR m δ h=(Xn h).bind tru:=rfl
@[simp]theorem QV:qE t δ h=(t δ h).bind λb h1=>.ok (!b) h1:=rfl
@[simp]theorem QW:yL ta tb δ h=(ta δ h).bind λb h1=>if b=true then tb δ h1 else .ok false h1:=by unfold yL;congr 1;funext b h1;cases b <;> simp
@[simp]theorem RP:Ar ta tb δ h=(ta δ h).bind λb h1=>if b=true then .ok true h1 else tb δ h1:=by unfold Ar;congr 1;funext b h1;cases b <;> simp
@[simp]theorem T5:mIf t ma mb δ h=(t δ h).bind λb h1=>if b=true then ma δ h1 else mb δ h1:=by unfold mIf;congr 1;funext b h1;cases b <;> simp
abbrev bl2(x:PV)(f g:W_ 0):W_ 0:=match x with
 |.bl true=>f
 |.bl false=>g
 |_=>.bad
@[simp]theorem T6{b:Bool}{f g:W_ 0}:bl2 (.bl b) f g=if b=true then f else g:=by cases b <;> simp[bl2]
open H in
@[simp]theorem QX:vA ma mb δ h=(ma δ h).bind λx h1=>bl2 x (mb δ h1) (.ok (.bl false) h1):=by unfold vA;first|rfl|(congr 1;funext x h1;cases x <;> first|rfl|(rename_i b;cases b <;> rfl))
@[simp]theorem QY{b:Bool}:MM (.bl b) h=.ok (.bl b) h:=rfl
@[simp]theorem Es:aT ms δ h=(Xi h).bind λxs h1=>if xs.length<=w9 then .ok (.tup xs) h1 else .bad:=rfl
@[simp]theorem RQ:cO ms δ h=(Xi h).bind λxs h1=>if xs.length<=w9 then .ok (.ref h1.length) (h1++[.lst xs]) else .bad:=rfl
@[simp]theorem Pn:kQ δ h=.ok (.ref h.length) (h++[.dK []]):=(rfl)
@[simp]theorem Et:aC δ h=.ok [] h:=rfl
@[simp]theorem vB:aA m ms δ h=(Xn h).bind λx h1=>(Xi h1).bind λxs h2=>.ok (x::xs) h2:=rfl
@[simp]theorem HN{g:x_ 0->PH->W_ 0}:mCB g ms δ h=(Xi h).bind g:=rfl
@[simp]theorem QZ{f:Fn}:aW n f ms δ h=(Xi h).bind λps h1=>if ps.length=n then f ps h1 else .bad:=rfl
@[simp]theorem RR:mG δ h=.ok a7 h:=rfl
abbrev HP(x:PV)(h:PH):Rs (WS 0):=match x with
 |.int i=>.ok (a0 i) h
 |_=>.bad
@[simp]theorem Oo{i:Int}:HP (.int i) h=.ok (a0 i) h:=rfl
@[simp]theorem TH:mP m δ h=(Xn h).bind HP:=rfl
@[simp]theorem T7:mSl m ml mh δ h=(Xn h).bind λx h1=>(ml δ h1).bind λl h2=>(mh δ h2).bind λu h3=>vSl x l u h3:=rfl
@[simp]theorem T8{g:PV->x_ 0->PH->W_ 0}:mMt ty g m ms δ h=(Xn h).bind λx h1=>if ty x h1=true then(Xi h1).bind λps h2=>g x ps h2 else .bad:=rfl
@[simp]theorem RS{g:PV->x_ 0->PH->W_ 0}:xK ty g m δ h=(Xn h).bind λx h1=>if ty x h1=true then g x [] h1 else .bad:=rfl
@[simp]theorem kT:w9=16777216:=by rw[Uu]
def La{i j:Int}(c:(-18446744073709551616<i/\i<18446744073709551616)\/(-18446744073709551616<j/\j<18446744073709551616)):Al (.int i) (.int j) h=.ok (.int<|i*j) h:=by show Xy 0
@[simp]theorem R0{i j:Int}(c:(-18446744073709551616<i/\i<18446744073709551616)\/(-18446744073709551616<j/\j<18446744073709551616)):vInt CQ (λi j=>i*j) (.int i) (.int j) h=.ok (.int<|i*j) h:=La c
@[simp]theorem RT{i j:Int}(c:0<j/\j<1073741824):vInt GL (λi j=>i/j) (.int i) (.int j) h=.ok (.int<|i/j) h:=Xy 0
@[simp]theorem RU{i j:Int}(c:0<j):vInt (λ_ j=>0<j) (λi j=>i%j) (.int i) (.int j) h=.ok (.int<|i%j) h:=Xy 0
@[simp]theorem RW{i j:Int}(c:0<=j/\j<=1000000/\-18446744073709551616<i/\i<18446744073709551616):vInt Fp (λi j=>i ^ j.toNat) (.int i) (.int j) h=.ok (.int<|i ^ j.toNat) h:=by
 change(if Fp i j then _ else _)=_
 refine if_pos ⟨c.1,c.2.1,?_⟩;let⟨_,_,h1,h2⟩:=c;omega
@[simp]theorem RX{i j:Int}:Aj (.int i) (.int j) h=.ok (.int<|i-j) h:=(rfl)
@[simp]theorem G6{i j:Int}:aL (.int i) (.int j) h=.ok (.int<|i+j) h:=(rfl)
@[simp]theorem Po{y:Str}(c:x.length+y.length<=16777216):aL (.str x) (.str y) h=.ok (.str<|x++y) h:=Xy 0
@[simp]theorem oH(c:xs.length+ys.length<=16777216):aL (.tup xs) (.tup ys) h=.ok (.tup<|xs++ys) h:=by
 cases xs with
 |nil=>rfl
 |cons x xs=>exact if_pos ⟨rfl,c⟩
@[simp]theorem R1{f:Int->Int->Bool}{g:v_ 0->v_ 0->Bool}{i j:Int}:Hz f g (.int i) (.int j) h=.ok (.bl<|f i j) h:=(rfl)
@[simp]theorem T9{b:Bool}:tru (.bl b) h=.ok b h:=rfl
@[simp]theorem R3:ofO (a0 p) h=.ok p h:=rfl
@[simp]theorem R4{b:Bool}:ofB (a0 b) h=.ok (.bl b) h:=rfl
@[simp]theorem RY{i:Int}:vIx (.tup xs) (.int i) h=ofO (YT i) h:=(rfl)
@[simp]theorem Ta{i:Int}:vIx (.fl xs) (.int i) h=ofO (YT i) h:=(rfl)
def bE{i:Int}(e:h[n]?=a0 (.lst xs)):vIx (.ref n) (.int i) h=ofO (YT i) h:=by simp[vIx,aH,e]
@[simp]theorem Lb{i:Int}(c:z.length<=16777216):vIx (.str z) (.int i) h=ofO ((αg i).map λc=>.str ⟨#[c]⟩) h:=Xy 0
@[simp]theorem RZ:kR [.fl xs] h=.ok (.int xs.length) h:=(rfl)
@[simp]theorem R5(c:x.length<=16777216):kR [.str x] h=.ok (.int x.length) h:=Xy 0
def vC(e:h[n]?=a0 (.lst xs)):kR [.ref n] h=.ok (.int xs.length) h:=by simp[kR,aH,e]
@[simp]theorem R6{i:Str}{c:String}:G3 [.str i,.ty c] h=if c∈known then .ok (.bl<|yM "str" c) h else .bad:=(rfl)
def iX(e:h[n]?=a0 (.lst xs)):isL (.ref n) h=true:=by simp[isL,dG,e]
def dZ(e:h[n]?=a0 (.lst xs))(c:xs.length<16777216):γC (.ref n) [p] h=.ok .non (WY<|.lst<|xs++[p]):=by simp[onL,dG,e,bA,c]
def Lc{α:Type}{xs:ZH 0}{i:Int}(H:0<=i)(h1:i<xs.length):YT i=xs[i.toNat]?:=by unfold atI ixN;rw[if_pos H,if_pos h1];rfl
def rE{g:PH->Bool}{tg:Mg}{body:Ms}{E:FE}(I:Nat->Ev->PH->Prop):∀(s)(k)(w)(h),I k w h->
  (∀i x w h,k<=i->s[i-k]?=a0 x->I i w h->g h=true/\∃u,tg x w=a0 u/\(body u h).W { nx:=I<|i+1,ct:=I<|i+1,rt:=E.rt,bk:=E.nx})->
  (∀w h,I (k+s.length) w h->g h=true/\E.nx w h)->(Zk s w h).W E
 |[],k,w,h,o,_,f=>by let⟨q,H⟩:=f w h o;simp[iE,q,H]
 |x::s,k,w,h,o,t,f=>by
  let⟨q,u,H,v⟩:=t k x w h (wj _) (by simp) o;let G:∀z H,I _ z H->(Zk s z H).W E:=λz H m=>
   rE I s _ z H m (λi y w h K Y=>t i y w h (VX K) (by
    have:=(Nat.succ_pred_eq_of_pos (Nat.sub_pos_of_lt K)).symm;rw[this];show Y)) (λw h n=>f w h (by
    let e:k+(x::s).length=k+1+s.length:=Nat.add_right_comm k _ 1;rw[e];show n))
  unfold iE;rw[if_pos q,H]
  change Fl.W (match body u h with|.nx z H=>Zk s z H|.ct z H=>Zk s z H|.bk z H=>.nx z H|r=>r) E
  cases e:body u h with
  |nx z H=>rw[e]at v;show G z H v
  |ct z H=>rw[e]at v;show G z H v
  |bk z H=>rw[e]at v;show v
  |rt p H=>rw[e]at v;show v
  |exc=>rw[e]at v;show v
  |bad=>rw[e]at v;show v
def HQ{j:Int}(I:Nat->Ev->PH->Prop)(e:Xi h=.ok [.int j] h)(y:-4611686018427387904<=j/\j<4611686018427387904)(z:I 0 δ h)(s:∀(q:Nat) δ h,(q)<j->I q δ h->(body (γd<|a0 (.int q)) h).W { nx:=I<|q+1,ct:=I<|q+1,rt:=E.rt,bk:=E.nx})(f:∀δ h,I j.toNat δ h->YE h):(dH (mQ ms) (gN i) body δ h).W E:=by
 unfold dH mQ;rw[e];let J:-(2 ^ 62)<=j/\j<2 ^ 62:=y;simp only[Rs.bind_ok,Em,if_pos J,Rs.fl_ok];refine αW h z (λq x δ h _ X H=>?_) (λδ h H=>⟨rfl,f δ h (by rw[cU,V4]at H;show H)⟩);let w:q<j.toNat:=by have:=(vz.mp X).1;rw[cU]at this;omega
 rw[Wh,qF _ _ _ w]at X;cases X
 refine⟨rfl,_,rfl,?_⟩;rw[Int.zero_add];show s q δ h ⋯ H
def Dr{lo j:Int}(I:Nat->Ev->PH->Prop)(e:Xi h=.ok [.int lo,.int j] h)(hj:-4611686018427387904<=lo/\lo<4611686018427387904/\-4611686018427387904<=j/\j<4611686018427387904)(h0:I 0 δ h)(step:∀(q:Nat) δ h,lo+(q:Int)<j->I q δ h->(body (γd<|a0<|.int<|lo+q) h).W { nx:=I<|q+1,ct:=I<|q+1,rt:=E.rt,bk:=E.nx})(fin:∀δ h,I (j-lo).toNat δ h->YE h):(dH (qG ms) (gN i) body δ h).W E:=by
 unfold dH qG;rw[e];let tq:-(2 ^ 62)<=lo/\lo<2 ^ 62/\-(2 ^ 62)<=j/\j<2 ^ 62:=hj;simp only[Rs.bind_ok,HG,if_pos tq,Rs.fl_ok];refine αW h h0 (λq x δ h _ hx hi=>?_) (λδ h hi=>⟨rfl,fin δ h (by rw[cU,V4]at hi;show hi)⟩);let hq:q<(j-lo).toNat:=by have:=(vz.mp hx).1;rw[cU]at this;omega
 rw[Wh,qF _ _ _ hq]at hx;cases hx
 show⟨rfl,_,rfl,step q δ h ⋯ hi⟩
def HS{m:Me}{tg:Mg}(I:Nat->Ev->PH->Prop)(e:Xn h=.ok (.tup xs) h\/Xn h=.ok (.fl xs) h)(H:I 0 δ h)(s:∀(q) x δ h,xs[q]?=a0 x->I q δ h->∃z,tg x δ=a0 z/\(body z h).W { nx:=I<|q+1,ct:=I<|q+1,rt:=E.rt,bk:=E.nx})(f:∀δ h,δa h->YE h):(dH (aV m) tg body δ h).W E:=by
 let o:=αW h H (λq x δ h _ X i=>⟨rfl,s q x δ h (cA X) i⟩)<|λδ h i=>⟨rfl,f δ h<|cA i⟩;unfold dH aV;rcases e with e|e <;> rw[e] <;> exact o
def rF{m:Me}{tg:Mg}(I:Nat->Ev->PH->Prop)(e:Xn h=.ok (.ref n) h1)(N:h1[n]?=a0 (.lst xs))(u:I 0 δ h1)(k:∀q δ h,q<=xs.length->I q δ h->h[n]?=a0 (.lst xs))(s:∀(q) x δ h,xs[q]?=a0 x->I q δ h->∃z,tg x δ=a0 z/\(body z h).W { nx:=I<|q+1,ct:=I<|q+1,rt:=E.rt,bk:=E.nx})(f:∀δ h,δa h->YE h):(dH (aV m) tg body δ h).W E:=by
 let K:∀{h:PH},h[n]?=a0 (.lst xs)->tG n xs h=true:=λ{h} e=>by
  let w:Xr n=a0 xs:=by unfold aH;rw[e]
  unfold tG;rw[w];show PV.beqs_self xs
 unfold dH aV;rw[e];let v:ofSeq (.ref n) h1=.ok ⟨xs,tG n xs⟩ h1:=by
  let w:aH h1 n=a0 xs:=by unfold aH;rw[N]
  unfold ofSeq;simp[w]
 rw[Rs.bind_ok,v];refine αW h1 u (λq x δ h _ X y=>?_)<|λδ h y=>?_
 ·let H:xs[q]?=a0 x:=by simpa using X
  have:=(vz.mp H).1;show⟨K<|k q δ h ⋯ y,s q x δ h H y⟩
 ·let i:δa h:=by simpa using y
  show⟨K<|k _ δ h (wj _) i,f δ h i⟩
def W_fn{N:Nat}{Q:PV->PH->Prop}(w:(body (args.map a0++Wc (N-args.length) a7) h).W { nx:=λ_ h=>Q .non h,rt:=Q}):(mFn N body args h).W Q:=by
 unfold mFn;cases e:body (args.map a0++Wc _ a7) h with
 |nx z H=>rw[e]at w;show w
 |rt p H=>rw[e]at w;show w
 |_=>rw[e]at w;show w.elim
@[simp]theorem TJ:gN i p δ=a0 (γd<|a0 p):=rfl
@[simp]theorem Tb{u:Mgs}{ps:x_ 0}:gTp n u (.tup ps) δ=if ps.length=n then u ps δ else a7:=rfl
@[simp]theorem Tc{t:Mg}{u:Mgs}{r:x_ 0}:gCn t u (p::r) δ=(t p δ).bind (u r):=rfl
@[simp]theorem Td:gNl [] δ=a0 δ:=rfl
end
abbrev Ext(h h':PH):Prop:=∀(n:Nat)(o:MO),h[n]?=a0 o->h'[n]?=a0 o
def Ext.refl(h:PH):tx h:=λ_ _ e=>e
variable{h2:PH}
def Ext.trans(a:tx h1)(b:αL h2):tx h2:=λn o e=>b n o<|a n o e
def Ext.app(h g):tx (h++g):=λn o e=>by rw[xc (X2 0).1];show e
def Ext.len{h':PH}(e:tx h'):h.length<=h'.length:=by
 rcases Nat.lt_or_ge _ _ with z|z
 ·have:h[h'.length]?=a0 h[h'.length]:=by simp[z]
  have:=(vz.mp<|e _ _ this).1;omega
 ·show z
def aE:(h++[o])[h.length]?=a0 o:=by simp
variable{o':MO}
def bF(e:h[n]?=a0 o):(WY o')[n]?=a0 o':=z9 (X2 0).1
def aQ(e:h[m]?=a0 o)(d:n≠m):(WY o')[m]?=a0 o:=by rw[yt d];show e
abbrev PV.pl:Nat->PV->Bool
 |_,.non=>true
 |_,.int _=>true
 |_,.str _=>true
 |n+1,.tup xs=>xs.all (PV.pl n)
 |_,_=>false
def Ld{x:PV}{d:D}{ds:i_ D}(h1:x.d=a0 d)(h2:δQ 0=a0 ds):PV.ds (x::xs)=a0 (d::ds):=by simp[PV.ds,h1,h2]
def R7{ds:i_ D}(h:δQ 0=a0 ds):(ZL 0).d=a0 (.tup ds):=by simp[PV.d,h]
open H in
def bQ{d:D}(h:(ZL 0).d=a0 d):∃s,δQ 0=a0 s/\d=.tup s:=by
 unfold PV.d at h;split at h
 ·rename_i s e;cases h;show⟨s,e,rfl⟩
 ·cases h
open H in
def cE{x:PV}{ds:i_ D}(h:PV.ds (x::xs)=a0 ds):∃d r,x.d=a0 d/\δQ 0=a0 r/\ds=d::r:=by
 unfold PV.ds at h;split at h
 ·rename_i d r e E;cases h;show⟨d,r,e,E,rfl⟩
 ·cases h
def HU:∀(n)(x:PV),x.pl n=true->∃d,x.d=a0 d/\d.depth<=n:=by
 intro n
 induction n with
 |zero=>intro x h;cases x <;> first|exact⟨_,rfl,wj _⟩|(simp[PV.pl]at h)
 |succ n I=>
  intro x h;cases x with
  |tup X=>
   let m:∀(X),X.all (PV.pl n)=true->∃s,PV.ds X=a0 s/\D.depths s<=n:=by
    intro X
    induction X with
    |nil=>intro _;show⟨[],rfl,zk _⟩
    |cons x X i=>
     intro h;simp only[Ws,yq]at h;let⟨d,H,z⟩:=I x h.1;let⟨s,y,w⟩:=i h.2;refine⟨d::s,Ld H y,?_⟩
     change max _ _<=n
     omega
   let⟨s,H,z⟩:=m X h;refine⟨.tup s,R7 H,?_⟩
   change D.depths s+1<=n+1
   omega
  |_=>first|exact⟨_,rfl,zk _⟩|(simp[PV.pl]at h)
def MQ:∀(n)(x y:PV)(d e:D),x.pl n=true->y.pl n=true->x.d=a0 d->y.d=a0 e->eqD d e=decide (x=y):=by
 intro n
 induction n with
 |zero=>
  intro x y d e X H z h;cases x <;> first|(simp[PV.pl]at X;done)|skip
  all_goals cases z
  all_goals cases y <;> first|(simp[PV.pl]at H;done)|skip
  all_goals cases h
  all_goals simp[eqD]
  all_goals rw[Up]
  all_goals simp
 |succ n t=>
  intro x y d e X H z h;let l:∀(S s)(w E),S.all (PV.pl n)=true->s.all (PV.pl n)=true->PV.ds S=a0 w->PV.ds s=a0 E->FP w E=decide (S=s):=by
   intro S
   induction S with
   |nil=>
    intro s w E _ _ z h;cases z
    cases s with
    |nil=>cases h;rfl
    |cons y s=>let⟨d,r,_,_,rfl⟩:=cE h;simp[FP]
   |cons x S I=>
    intro s w E X H z h;let⟨d,r,G,g,rfl⟩:=cE z;simp only[Ws,yq]at X;cases s with
    |nil=>cases h;simp[FP]
    |cons y s=>let⟨e,q,v,u,rfl⟩:=cE h;simp only[Ws,yq]at H;simp only[FP,t x y d e X.1 H.1 G v,I s r q X.2 H.2 g u];simp
  cases x with
  |tup S=>
   let⟨w,G,rfl⟩:=bQ z;cases y with
   |tup s=>let⟨E,g,rfl⟩:=bQ h;simp only[eqD,l S s w E X H G g];simp
   |non=>cases h;simp[eqD]
   |int j=>cases h;simp[eqD]
   |str j=>cases h;simp[eqD]
   |_=>simp[PV.pl]at H
  |non=>
   cases z
   cases y with
   |tup s=>let⟨E,g,rfl⟩:=bQ h;simp[eqD]
   |non=>cases h;simp[eqD]
   |int j=>cases h;simp[eqD]
   |str j=>cases h;simp[eqD]
   |_=>simp[PV.pl]at H
  |int i=>
   cases z
   cases y with
   |tup s=>let⟨E,g,rfl⟩:=bQ h;simp[eqD]
   |non=>cases h;simp[eqD]
   |int j=>cases h;simp[eqD];rw[Up];simp
   |str j=>cases h;simp[eqD]
   |_=>simp[PV.pl]at H
  |str i=>
   cases z
   cases y with
   |tup s=>let⟨E,g,rfl⟩:=bQ h;simp[eqD]
   |non=>cases h;simp[eqD]
   |int j=>cases h;simp[eqD]
   |str j=>cases h;simp[eqD];rw[Up];simp
   |_=>simp[PV.pl]at H
  |_=>simp[PV.pl]at X
section
variable{α:Type}{a b c d e f g:α}{r:ZH 0}
def qH{xs:ZH 0}{v:α}(i:Nat)(h:xs[i]?=a0 v):YT (i)=a0 v:=bZ h
@[simp]theorem TR:atI (a::r) 0=a0 a:=qH 0 rfl
@[simp]theorem TU:atI (a::b::r) 1=a0 b:=qH 1 rfl
@[simp]theorem TV:atI (a::b::c::r) 2=a0 c:=qH 2 rfl
@[simp]theorem TX:atI (a::b::c::d::r) 3=a0 d:=qH 3 rfl
@[simp]theorem TY:atI (a::b::c::d::e::r) 4=a0 e:=qH 4 rfl
def Le{xs:ZH 0}{i:Int}(h:xs≠[]):∃v,YT (i%(xs.length:Int))=a0 v/\v∈xs:=by let h0:0<xs.length:=List.length_pos_iff.mpr h;let⟨v,h1,h2⟩:=O1 (xs:=xs) (i:=i%(xs.length:Int)) (WL _ ⋯)<|Int.emod_lt_of_pos _ ⋯;show⟨v,h1,ye h2⟩
end
open PySem.SeqAt
open PySem.AutoSeq1 (wpAny_loadPart')
open PySem.MeetsSeq PySem.MeetsSeq2 PySem.MeetsSeq3
abbrev Lg(A:d_)(s:d7)(v u:d6)(b:Bool):Prop:=∀(prog:f_)(w:fI)(E:(d6->d7->Prop))(Q:(d6->d7->Prop)),Q (.bool b) s->cu (Wz .Lt v u) Q E s
abbrev R8(A:d_)(s:d7)(v u:d6)(d e:D):Prop:=Zv v u (eqD d e)/\(eqD d e=false->∀b,ltD d e=a0 b->δj b)
@[reducible]noncomputable def yN(A:d_)(s:d7):Xu 0->Xu 0->i_ D->i_ D->Prop:=λvs us ds es=>vs.length=ds.length/\us.length=es.length/\∀(j:Nat) v u d e,vs[j]?=a0 v->us[j]?=a0 u->ds[j]?=a0 d->es[j]?=a0 e->R8 A s v u d e
variable{us:Xu 0}
def yN.tail{d e:D}{ds es:i_ D}(h:yN A s (v::vs) (u::us) (d::ds) (e::es)):R8 A s v u d e/\yN A s vs us ds es:=⟨h.2.2 0 v u d e rfl rfl rfl rfl,by have:=h.1;simpa using this,by have:=h.2.1;simpa using this,λj v u d e H z y x=>h.2.2 (j+1) v u d e (cA H) (cA z) (cA y)<|cA x⟩
def Av(l b:d8)(items bj:y_ 0)(n n2:Nat)(dd kh:jh d8)(sl kg:Array (T_ 0))(ds es:i_ D)(c:Bool)(hc:BH ds es=a0 c):
  Meets (Builtin.«tuple.__lt__» ⟨[.ref l,.ref b],[]⟩)
   (λA R s=>δB 0=a0 {cls:=.type "tuple",dict:=dd,data:=.seq items n,slots:=sl}/\oa 0=a0 {cls:=.type "tuple",dict:=kh,data:=.seq bj n2,slots:=kg}/\
    yN A.in1 s items.toList bj.toList ds es/\R (.ok (.ret (.bool c))) s):=
 .of_wp λprog w A R s h=>by
  let⟨hp,g,d,tk,os⟩:=s;let⟨hl,hb,hit,h⟩:=h;let f2:=AutoSeq1.sub_tuple_tuple;let z1:items.size=ds.length:=by rw[<-hit.1];simp
  let z2:bj.size=es.length:=by rw[<-hit.2.1];simp
  wp_walk using Wm hl,Wm hb,Zw (λrest b s'=>b.1=a7/\s'=⟨hp,g,d,tk,os⟩/\∃(vs ws:Xu 0)(fe du:i_ D),rest=vs.zip ws/\
   yN A.in1 ⟨hp,g,d,tk,os⟩ vs ws fe du/\fe.length+bj.size=du.length+items.size/\BH fe du=a0 c) _
  case turn=>
   rintro⟨y,x⟩ rest b s' ⟨hb',rfl,vs,ws,fe,du,hz,hvi,hlen,hR⟩;cases vs with
   |nil=>rw[List.zip_nil_left]at hz;cases hz
   |cons v vs=>
    cases ws with
    |nil=>rw[List.zip_nil_right]at hz;cases hz
    |cons u ws=>
     rw[Wf]at hz;injection hz with hyx hrest;injection hyx with hy hx;subst hy hx;cases fe with
     |nil=>have:=hvi.1;simp at this
     |cons a fe=>
      cases du with
      |nil=>have:=hvi.2.1;simp at this
      |cons e du=>
       let⟨⟨h1,h2⟩,ht⟩:=yN.tail hvi;simp only[yw]at hlen;rw[show BH (a::fe) (e::du)=if eqD a e=true then BH fe du else ltD a e from rfl]at hR
       refine vy<|h1 prog w _ _ ?_;cases q:eqD a e with
       |true=>
        rw[q,if_pos rfl]at hR
        wp_walk
        show⟨rfl,rfl,_,_,_,_,hrest,ht,⋯,hR⟩
       |false=>
        rw[q,if_neg xh]at hR;let u7:=h2 q c hR prog w
        wp_walk using u7
        show⟨_,rfl,cA h⟩
  case fin=>
   rintro⟨b1,b2⟩ s' ⟨hb',rfl,vs,ws,fe,du,hz,hvi,hlen,hR⟩;simp only at hb';subst hb';let hv:c=decide (items.size<bj.size):=by
    cases fe with
    |nil=>
     cases du with
     |nil=>
      simp only[VU]at hlen;cases hR
      show(decide_eq_false ⋯).symm
     |cons e du=>
      simp only[VU,yw]at hlen;cases hR
      show(decide_eq_true ⋯).symm
    |cons a fe=>
     cases du with
     |nil=>
      simp only[VU,yw]at hlen;cases hR
      show(decide_eq_false ⋯).symm
     |cons e du=>
      exfalso;cases vs with
      |nil=>have:=hvi.1;simp at this
      |cons v vs=>
       cases ws with
       |nil=>have:=hvi.2.1;simp at this
       |cons u ws=>rw[Wf]at hz;cases hz
   rw[hv]at h
   wp_walk
   show⟨_,rfl,by simpa[Builtin.Tuple.tupleCompareSizes] using h⟩
  case h=>exact⟨rfl,rfl,items.toList,bj.toList,ds,es,rfl,hit,⋯,hc⟩
variable{C:MC}{k:Nat}{X:Cx}
abbrev Te(x y:PV):Y4 0:=match x.d,y.d with
 |some d,a0 e=>if d.depth<=40 then ltD d e else a7
 |_,_=>a7
abbrev TK:PV->PV->PH->W_ 0:=λx y h=>match x,y with
 |.tup xs,.tup ys=>ofB (Te (.tup xs)<|.tup ys) h
 |x,y=>vLt x y h
abbrev ltL(f:PV->PV->Y4 0):x_ 0->x_ 0->Y4 0
 |[],[]=>δw 0
 |[],_::_=>a0 true
 |_::_,[]=>δw 0
 |x::xs,y::ys=>if x=y then ltL f xs ys else f x y
abbrev ltP:Nat->PV->PV->Y4 0
 |_,.int a,.int b=>a0 (decide (a<b))
 |_,.str a,.str b=>a0 (decide (a.cps.toList<b.cps.toList))
 |n+1,.tup xs,.tup ys=>ltL (ltP n) xs ys
 |_,_,_=>a7
def MR:∀(n:Nat)(x y:PV)(d e:D),x.pl n=true->y.pl n=true->x.d=a0 d->y.d=a0 e->ltD d e=ltP n x y:=by
 intro n
 induction n with
 |zero=>
  intro x y d e hx hy h1 h2;cases x <;> first|(cases hx;done)|skip
  all_goals cases h1
  all_goals cases y <;> first|(cases hy;done)|skip
  all_goals cases h2
  all_goals rfl
 |succ n ih=>
  intro x y d e hx hy h1 h2;let lists:∀(xs ys:x_ 0)(ds es:i_ D),xs.all (PV.pl n)=true->ys.all (PV.pl n)=true->δQ 0=a0 ds->PV.ds ys=a0 es->BH ds es=ltL (ltP n) xs ys:=by
   intro xs
   induction xs with
   |nil=>
    intro ys ds es _ _ h1 h2;cases h1
    cases ys with
    |nil=>cases h2;rfl
    |cons y ys=>let⟨d,r,_,_,rfl⟩:=cE h2;rfl
   |cons x xs ihx=>
    intro ys ds es hx hy h1 h2;let⟨d,r,g1,g2,rfl⟩:=cE h1;simp only[Ws,yq]at hx;cases ys with
    |nil=>cases h2;rfl
    |cons y ys=>
     let⟨e,q,g3,g4,rfl⟩:=cE h2;simp only[Ws,yq]at hy
     change(if eqD d e=true then BH r q else ltD d e)=if x=y then ltL (ltP n) xs ys else ltP n x y
     simp only[MQ n x y d e hx.1 hy.1 g1 g3,ihx ys r q hx.2 hy.2 g2 g4,ih x y d e hx.1 hy.1 g1 g3,decide_eq_true_eq]
  cases x with
  |tup xs=>
   let⟨ds,g1,rfl⟩:=bQ h1;cases y with
   |tup ys=>let⟨es,g2,rfl⟩:=bQ h2;show lists xs ys ds es hx hy g1 g2
   |non=>cases h2;rfl
   |int j=>cases h2;rfl
   |str j=>cases h2;rfl
   |_=>cases hy
  |non=>cases h1;cases y <;> first|(cases hy;done)|(let⟨es,g2,rfl⟩:=bQ h2;rfl;done)|(cases h2;rfl)
  |int i=>cases h1;cases y <;> first|(cases hy;done)|(let⟨es,g2,rfl⟩:=bQ h2;rfl;done)|(cases h2;rfl)
  |str i=>cases h1;cases y <;> first|(cases hy;done)|(let⟨es,g2,rfl⟩:=bQ h2;rfl;done)|(cases h2;rfl)
  |_=>cases hx
variable{C:MC}{k:Nat}{X:Cx}
def G7:vn X->δu (.builtin "sum") (λx H Q=>∃(p:d8)(n:Zg 0),x=[.ref p]/\SqL C.K H p (n.map V.int)/\Q (.int n.sum) H):=λc=>by
 rintro P s j H x U Q I r ⟨p,n,rfl,z,q⟩;let⟨u,rfl,R⟩:=vals1 r;cases R
 rw[<-c.K]at z;let⟨t,v,L,Z⟩:=I.list z;let i:=intsAre_of v;let⟨y,Y⟩:=i.allInts.items;let l:=L.isList;rw[Y]at l;refine sum_intListG (XT 0) l λo m T w=>?_;let e:preSum (numAt y) y.size=n.sum:=by let E:=preSum_eq y y.size;rw[zq<|by simp]at E;rw[E,<-nums_intItems,<-Y];have:=i.numsOf;rw[this]
 rw[e];show⟨.int n.sum,H,I.kept w,⟨_,rfl⟩,q⟩
abbrev yO:x_ 0->jh (Zg 0)
 |[]=>a0 []
 |.int i::r=>(yO r).map (i::·)
 |_::_=>a7
def Eu{φ:i_ d8}{H:Hp}:∀{xs:x_ 0}{vs:i_ V}{ns:Zg 0},Xh 0->yO xs=a0 ns->vs=Yc 0
 |[],[],_,_,e=>by cases e;rfl
 |x::xs,v::vs,ns,⟨h,r⟩,e=>by
  cases x with
  |int i=>
   cases h
   simp[yO]at e;let⟨m,e,rfl⟩:=e;rw[Eu r e];rfl
  |_=>cases e
 |[],_::_,_,h,_=>h.elim
 |_::_,[],_,h,_=>h.elim
def G8(s):yO (s.map PV.int)=a0 s:=by
 induction s with
 |nil=>rfl
 |cons n s i=>simp[yO,i]
abbrev Ds:x_ 0->PH->W_ 0:=λxs h=>match xs with
 |[x]=>match fQ x h with
  |some ys=>match yO ys with
   |some ns=>.ok (.int ns.sum) h
   |none=>.bad
  |none=>.bad
 |_=>.bad
open H in
def R9:Yj (.builtin "sum") Ds:=λc=>(G7 c).imp λS H Q h=>by
 let⟨z,h,P,r,V,p⟩:=h;unfold Ds at p;split at p
 ·let⟨v,rfl,x⟩:=V.one;split at p
  ·rename_i y e;split at p
   ·rename_i N n;let⟨a,S,rfl,s,R⟩:=dO r x e;rw[Eu R n]at s;show⟨a,N,rfl,s,ZU rfl⟩
   ·show p.elim
  ·show p.elim
 ·show p.elim
def BU(e:h[n]?=a0 (.lst<|ns.map PV.int)):Ds [.ref n] h=.ok (.int ns.sum) h:=by
 let E:fQ (.ref n) h=a0 (ns.map PV.int):=by unfold fQ aH;simp[e]
 unfold Ds;simp[E,G8]
open PySem
@[simp]theorem S0{lo:WS 0}(c:z.length<=16777216):vSl (.str z) lo hi h=.ok (.str<|UF z lo hi) h:=Xy 0
@[simp]theorem S3{lo:WS 0}:vSl (.tup xs) lo hi h=.ok (.tup<|fY xs lo hi) h:=(rfl)
@[simp]theorem Tf{lo:WS 0}:vSl (.fl xs) lo hi h=.ok (.ref h.length) (h++[.lst<|fY xs lo hi]):=(rfl)
def Ew{lo:WS 0}(e:h[n]?=a0 (.lst xs)):vSl (.ref n) lo hi h=.ok (.ref h.length) (h++[.lst<|fY xs lo hi]):=by
 let E:Xr n=a0 xs:=by unfold aH;rw[e]
 unfold vSl;simp[E]
@[simp]theorem S4{x:PV}:vIs x .non h=.ok (.bl<|rC x) h:=(rfl)
@[simp]theorem Oq{x:PV}:Aq x .non h=.ok (.bl<|!rC x) h:=(rfl)
def Lh{lo:WS 0}{α β:Type}{f:α->β}{xs:ZH 0}:fY (xs.map f) lo hi=(fY xs lo hi).map f:=by unfold fY;rw[wd,List.map_take,List.map_drop]
section
variable{tg:Mg}{g:PH->Bool}
def Aw{δ0:Ev}{Q:PV->PH->Prop}(I:Nat->PH->Prop):∀(X)(k)(h),I k h->
  (∀i x h,k<=i->X[i-k]?=a0 x->I i h->g h=true/\∃z,tg x δ0=a0 z/\(tst z h).W λb w=>if b=true then(elt z w).W λp H=>∃Y,H[n]?=a0 (.lst Y)/\Y.length<16777216/\I (i+1) (H.set n<|.lst<|Y++[p]) else I (i+1) w)->
  (∀h,I (k+X.length) h->g h=true/\Q (.ref n) h)->(mR g tg tst elt δ0 n X h).W Q
 |[],k,h,t,_,f=>by let⟨l,v⟩:=f h t;simp[mR,l,v]
 |x::X,k,h,t,s,f=>by
  let⟨l,z,v,r⟩:=s k x h (wj _) (by simp) t;let o:=λv m=>
   Aw I X (k+1) v m (λi y h K q=>s i y h (VX K) (by
    have:=(Nat.succ_pred_eq_of_pos (Nat.sub_pos_of_lt K)).symm;rw[this];show q)) (λh u=>f h (by
    let e:k+(x::X).length=k+1+X.length:=Nat.add_right_comm k _ 1;rw[e];show u))
  unfold mR;rw[if_pos l,v];rw[rD];refine HL r λb w B=>?_;cases b with
  |false=>exact o w<|cA B
  |true=>
   rw[rD];refine HL (show(elt z w).W _ from by simpa using B) λp H P=>?_
   let⟨Y,e,Z,u⟩:=P;let E:dG H n=a0 Y:=by unfold dG;rw[e]
   simp[E,Z];show o _ u
def oI{α:Type}{ys:ZH 0}{emb:α->PV}(f:α->jh PV)(e:mi δ h=.ok ⟨ys.map emb,g⟩ h1)(G:∀h,αL h->g h=true)(hz:ys.length<=16777216)(S:∀y∈ys,∃z,tg (emb y) (αV 0)=a0 z/\∀h,αL h->match f y with
   |none=>tst z h=.ok false h
   |some p=>tst z h=.ok true h/\elt z h=.ok p h):γf tg tst elt δ h=.ok (.ref h1.length) (h1++[.lst (γV 0)]):=by
 let w:(γf tg tst elt δ h).W λp H=>p=.ref h1.length/\H=h1++[.lst<|ys.filterMap f]:=by
  unfold bB;rw[e];refine Aw (λi H=>H=h1++[.lst<|(ys.take i).filterMap f]) (ys.map emb) 0 _ (by simp) (λi x H _ X I=>?_)<|λH I=>?_
  ·subst I;let X:(ys.map emb)[i]?=a0 x:=by simpa using X
   rw[xf]at X;let⟨y,Y,rfl⟩:=xv.mp X;let l:=(vz.mp Y).1;let⟨z,T,s⟩:=S y<|ye Y;let s:=s (h1++[.lst<|(ys.take i).filterMap f])<|Ext.app _ _;let t:ys.take (i+1)=ys.take i++[y]:=by rw[Ve,Y];rfl
   refine⟨G _<|Ext.app _ _,z,T,?_⟩;cases E:f y with
   |none=>rw[E]at s;rw[s];simp[t,E]
   |some p=>rw[E]at s;rw[s.1];simp[s.2];refine⟨?_,by simp[t,E]⟩;have:=List.length_filterMap_le f<|ys.take i;rw[ya]at this;omega
  ·subst I;simp;show G _<|Ext.app _ _
 let⟨p,H,e,rfl,rfl⟩:=gQ w;show e
def vD{m:Me}(e:Xn h=.ok (.ref n) h1)(H:h1[n]?=a0 (.lst xs)):aV m δ h=.ok ⟨xs,tG n xs⟩ h1:=by
 unfold aV;let E:aH h1 n=a0 xs:=by unfold aH;rw[H]
 rw[e,Rs.bind_ok];unfold ofSeq;simp[E]
def vE(H:h1[n]?=a0 (.lst xs)):∀h,αL h->tG n xs h=true:=λh x=>by
 let e:Xr n=a0 xs:=by unfold aH;rw[XW H]
 unfold tG;rw[e];show PV.beqs_self xs
def HV{m:Me}(e:Xn h=.ok (.tup xs) h1):aV m δ h=.ok ⟨xs,λ_=>true⟩ h1:=by unfold aV;rw[e];rfl
def eO{α:Type}{m:Me}{ys:ZH 0}{emb:α->PV}(f:α->jh PV)(e:Xn h=.ok (.ref n) h1)(H:h1[n]?=a0 (.lst<|ys.map emb))(hz:ys.length<=16777216)
  (s:∀y∈ys,∃z,tg (emb y) (αV 0)=a0 z/\∀h,αL h->match f y with
   |none=>tst z h=.ok false h
   |some p=>tst z h=.ok true h/\elt z h=.ok p h):bB js (aV m) tg tst elt δ h=.ok (.ref h1.length) (h1++[.lst (γV 0)]):=
 oI f (vD e H) (vE H) hz s
def yP{α:Type}{m:Me}{ys:ZH 0}{emb:α->PV}(f:α->jh PV)(e:Xn h=.ok (.tup<|ys.map emb) h1)(hz:ys.length<=16777216)
  (s:∀y∈ys,∃z,tg (emb y) (αV 0)=a0 z/\∀h,αL h->match f y with
   |none=>tst z h=.ok false h
   |some p=>tst z h=.ok true h/\elt z h=.ok p h):bB js (aV m) tg tst elt δ h=.ok (.ref h1.length) (h1++[.lst (γV 0)]):=
 oI f (HV e) (λ_ _=>rfl) hz s
def BV(lo):∀n,upTo lo n=(zo n).map (λ(i:Nat)=>PV.int<|lo+(i))
 |0=>rfl
 |n+1=>by
  rw[upTo,BV _ n,List.range_succ_eq_map,xg,yg];congr 1
  ·simp
  ·apply y1;intro a _;congr 1;omega
def BW{j:Int}(f:Nat->jh PV)(e:Xi h=.ok [.int j] h1)(hj:-4611686018427387904<=j/\j<16777216)(step:∀i:Nat,(i)<j->∃δ1,tg (.int i) (αV 0)=a0 δ1/\∀h,αL h->match f i with
   |none=>tst δ1 h=.ok false h
   |some p=>tst δ1 h=.ok true h/\elt δ1 h=.ok p h):bB js (mQ ms) tg tst elt δ h=.ok (.ref h1.length) (h1++[.lst ((zo j.toNat).filterMap f)]):=by
 refine oI (emb:=λi:Nat=>.int<|(0)+i) f ?_ (λ_ _=>rfl) (by simp;omega)<|λi hi=>?_
 ·unfold mQ;rw[e];let i:-(2 ^ 62)<=j/\j<2 ^ 62:=⟨hj.1,⋯⟩;simp only[Rs.bind_ok,Em,if_pos i];rw[BV]
 ·let hi':=Vu.mp hi;rw[Int.zero_add];show step i ⋯
def filterMap_some{α β:Type}(f:α->β)(xs:ZH 0):xs.filterMap (λx=>a0<|f x)=xs.map f:=by
 induction xs with
 |nil=>rfl
 |cons x xs i=>simp[i]
end
variable{kvs:i_ (PV×PV)}
section
variable{σ:St}
mutual
theorem mS(I:q_ s)(hK:X.K=C.K):∀(n:Nat){p:PV}{v:V}{u:d6},p.ky n=true->Xq v->WV u->z_ p u
 |_,.int i,v,u,_,r,ru=>by cases r;show ru
 |_,.str i,v,u,_,r,ru=>by cases r;show ru
 |n+1,.tup ps,v,u,hk,r,ru=>by
  let⟨a,vs,rfl,q,rs⟩:=r;cases ru
  rw[<-hK]at q;let⟨its,rv,p,_⟩:=I.tuple q;show⟨a,its,rfl,p,tR I hK n (xi.mp hk) rs rv⟩
 |0,.tup _,_,_,hk,_,_=>by cases hk
 |n,.non,_,_,hk,_,_=>by cases n <;> cases hk
 |n,.bl _,_,_,hk,_,_=>by cases n <;> cases hk
 |n,.ref _,_,_,hk,_,_=>by cases n <;> cases hk
 |n,.ty _,_,_,hk,_,_=>by cases n <;> cases hk
 |n,.fl _,_,_,hk,_,_=>by cases n <;> cases hk
theorem tR(I:q_ s)(hK:X.K=C.K):∀(n:Nat){ps:x_ 0}{vs:i_ V}{us:Xu 0},(∀p∈ps,p.ky n=true)->c9 ps vs->Z3 0->αF ps us
 |_,[],[],us,_,_,ru=>by cases ru;trivial
 |n,p::ps,v::vs,us,hk,r,ru=>by
  cases ru with
  |cons h t=>exact⟨mS I hK n (hk p wa) r.1 h,tR I hK n (λq hq=>hk q (YI hq)) r.2 t⟩
 |_,[],_::_,_,_,r,_=>r.elim
 |_,_::_,[],_,_,r,_=>r.elim
end
@[reducible]noncomputable def xM:i_ (PV×d8×V)->i_ (PV×d8×d6)->Prop:=Paired λp q=>p.1=q.1/\p.2.1=q.2.1/\RelV p.2.2 q.2.2
abbrev HD(C:MC)(φ:i_ d8)(H:Hp)(X:Cx)(s:d7)(a:d8)(kvs:i_ (PV×PV)):Prop:=
 ∃ks xs,βQ 0/\xM ks xs/\xs.length<=w9/\(a == Uy)=false/\s.heap.DictOfH (δU 0) a xs
abbrev aX(h:PH)(n:Nat):jh (i_<|PV×PV):=match h[n]? with
 |some (.dD kvs)=>a0 kvs
 |some (.dK [])=>a0 []
 |_=>a7
abbrev PV.isKt:PV->Bool
 |.tup xs=>(ZL 0).ky 6
 |_=>false
def Ax(h:p.isKt=true):p.ky 6=true:=by cases p <;> first|exact h|cases h
def qI{v:V}(h:p.isKt=true)(r:Xq v):∃b,v=.ref b:=by cases p <;> first|(let⟨b,_,e,_⟩:=r;show⟨b,e⟩)|cases h
open H in
def sL(I:q_ s)(W:X.K=C.K)(T:X.w=C.w)(Y:m_ h)(b:φ[n]?=a0 a)(e:YK n=a0 kvs):HD C φ H X s a kvs/\Mut (H a)/\uV (H a):=by
 unfold aX at e;split at e
 ·rename_i V g;cases e
  let⟨S,v,r⟩:=Y.at' n a _ b g;let⟨⟨N,M,F,f,o,E,P,k,j,i,c,p⟩,_⟩:=α8 v;refine⟨⟨S,F,r,f,by rw[<-ze f];show N,M,o,E,P,k,j,i,?_,?_,p⟩,by rw[v];show UR,by rw[v];show UR⟩
  ·rw[c,<-T];rfl
  ·let A:∀{l:i_ _}{m:i_ _}{z:i_ _},S_ l m->xM m z->∀x∈z,(δU 0).is s.heap x.1 x.2.1:=by
    intro l m z q
    induction q generalizing z with
    |nil=>intro d x u;cases d;cases u
    |cons Q t L=>
     intro d x u;cases d with
     |cons Z J=>
      rcases wu.mp u with e|u
      ·subst e;refine⟨?_,?_⟩
       ·rw[<-Z.1,<-Q.1];show Q.2.1
       ·rw[<-Z.1,<-Q.1,<-Z.2.1];show mS I W 6 Q.2.1 Q.2.2.1 rfl
      ·show L J x u
   show A r f
 ·rename_i g;cases e
  let⟨S,v,r⟩:=Y.at' n a _ b g;have:S=[]:=by cases r;rfl
  subst this;let⟨z,D,G,R,o,E,P,k,j,i,c,p,B⟩:=γc v;have:G=[]:=by cases R;rfl
  subst this;refine⟨⟨[],[],.nil,.nil,zk _,D,o,E,P,k,j,i,?_,(λx u=>nomatch u),List.nodup_nil⟩,by rw[v];show UR,by rw[v];show UR⟩;cases U:E.toList with
  |nil=>rfl
  |cons y O=>rw[U]at p;cases p
 ·cases e
def HD.val{a:d8}{ks:i_ (PV×d8×V)}{xs:i_ (PV×d8×d6)}(r:βQ 0)(R:xM ks xs)(k):match XS k,(YB k).map (·.2) with
  |some p,a0 u=>∃v,WV u/\Xq v
  |none,a7=>True
  |_,_=>False:=by
 induction r generalizing xs with
 |nil=>cases R;trivial
 | @cons p q w m h t i=>
  cases R with
  | @cons n x Q S y T=>
   let⟨P,o⟩:=p;by_cases e:P=k
   ·let E:=y.1.symm.trans<|h.1.symm.trans e;let b:atKey (x::S) k=a0 x.2:=by simp[atKey,E]
    rw[b];unfold aK;rw[Yn 0];show⟨_,y.2.2,h.2.2.2⟩
   ·let E:¬ x.1=k:=λz=>e<|h.1.trans<|y.1.trans z;let b:atKey (x::S) k=atKey S k:=by simp[atKey,E]
    rw[b];unfold aK;rw[W5 0];show i T
abbrev cL{κ:Type}[XR 0](kvs:i_ (κ×PV))(k:κ)(p:PV):i_ (κ×PV):=if(XS k).isSome then kvs.map (λkv=>if kv.1=k then(kv.1,p) else kv) else kvs++[(k,p)]
def HD.replace{a:d8}{ks:i_ (PV×d8×V)}{xs:i_ (PV×d8×d6)}(r:βQ 0)(n:xM ks xs)(k){v:V}(m:Xq v)(U:WV u):
  ∃K,S_ (kvs.map λw=>if w.1=k then(w.1,p) else w) K/\xM K (xs.map<|putAt k u):=by
 induction r generalizing xs with
 |nil=>cases n;show⟨[],.nil,.nil⟩
 | @cons P q l g h t i=>
  cases n with
  | @cons j x Q S y T=>
   let⟨K,R,o⟩:=i T;by_cases e:P.1=k
   ·refine⟨(q.1,q.2.1,v)::K,.cons ?_ R,.cons ?_ o⟩
    ·simp[Yn 0];show⟨h.1,h.2.1,h.2.2.1,m⟩
    ·unfold putAt;rw[if_pos<|y.1.symm.trans<|h.1.symm.trans e];show⟨y.1,y.2.1,U⟩
   ·refine⟨q::K,.cons ?_ R,.cons ?_ o⟩
    ·simp[W5 0];show h
    ·unfold putAt;rw[if_neg λz=>e<|h.1.trans<|y.1.trans z];show y
def HD.put{a b:d8}{ks:i_ (PV×d8×V)}{xs:i_ (PV×d8×d6)}(r:βQ 0)(x:xM ks xs){k:PV}(y:k.ky 6=true)(w:b6 k (.ref b)){v:V}(R:Xq v)(U:WV u):
  ∃K,S_ (cL kvs k p) K/\xM K (storedH xs k b u):=by
 let h:=HD.val (a:=b) r x k;unfold cL storedH;cases E:XS k with
 |some P=>
  rw[E]at h;cases e:YB k with
  |none=>rw[e]at h;show h.elim
  |some z=>exact HD.replace (a:=b) r x k R U
 |none=>
  rw[E]at h;cases e:YB k with
  |some z=>rw[e]at h;show h.elim
  |none=>exact⟨ks++[(k,b,v)],βb ⟨rfl,y,w,R⟩,Paired.snoc x ⟨rfl,rfl,U⟩⟩
def HD.isSome{ks:i_ (PV×d8×V)}{xs:i_ (PV×d8×d6)}(r:βQ 0)(x:xM ks xs)(k):(YB k).isSome=(XS k).isSome:=by
 let h:=HD.val (a:=0) r x k;cases E:XS k with
 |some p=>
  rw[E]at h;cases e:YB k with
  |none=>rw[e]at h;show h.elim
  |some z=>rfl
 |none=>
  rw[E]at h;cases e:YB k with
  |some z=>rw[e]at h;show h.elim
  |none=>rfl
def BX(I:q_ s)(z:X.K=C.K){b:d8}(h:p.isKt=true)(r:Xq (.ref b)):(δU 0).is s.heap p b:=⟨Ax h,mS I z 6 (Ax h) r rfl⟩
end
def Cxt.room6{k:Nat}(c:vn X):(δU 0).room X.A.in1:=by
 have:=c.hu64
 change X.A.units+1+6<cLine
 omega
abbrev mT(x y:PV)(h:PH):jh (jh PV):=match y with
 |.ref n=>if x.isKt=true then(YK n).map λkvs=>XS x else a7
 |_=>a7
abbrev BY(C:MC):V->V->Hp->(i_ d8->jh PV->Prop)->Prop:=λx y H R=>∃φ h p n a kvs,m_ h/\Xq x/\y=.ref a/\φ[n]?=a0 a/\YK n=a0 kvs/\p.isKt=true/\R φ (XS p)
open H in
def vF{q:PV}{x y:V}{o:jh PV}{R:i_ d8->jh PV->Prop}(z:m_ h)(w:Xq x)(Y:b6 q y)(e:mT p q h=a0 o)(r:R φ o):BY C x y H R:=by
 unfold mT at e;cases q with
 |ref n=>
  let⟨a,rfl,A⟩:=Y;dsimp only at e;split at e
  ·rename_i K;cases E:YK n with
   |none=>rw[E]at e;cases e
   |some v=>rw[E]at e;cases e;show⟨φ,h,p,n,a,v,z,w,rfl,A,E,K,r⟩
  ·cases e
 |_=>cases e
def Li{k:Nat}(c:vn X):A6 (zt .In) (λx y H Q=>BY C x y H λ_ o=>Q (.bl o.isSome) H):=λN s g H x y v u Q I j Y h=>by
 let⟨f,h,p,n,a,V,l,P,rfl,A,t,z,q⟩:=h;cases Y
 let⟨b,rfl⟩:=qI z P;cases j
 let⟨⟨S,i,r,R,Z,m,d⟩,_⟩:=X9 l A t;refine wpAny_in_heap c.room6 (δV z P) m d ?_;rw[HD.isSome r R p];show⟨.bl _,H,Xx 0,rfl,q⟩
def Dt{k:Nat}(c:vn X):A6 (zt .NotIn) (λx y H Q=>BY C x y H λ_ o=>Q (.bl<|!o.isSome) H):=λN s g H x y v u Q I j Y h=>by
 let⟨f,h,p,n,a,V,l,P,rfl,A,t,z,q⟩:=h;cases Y
 let⟨b,rfl⟩:=qI z P;cases j
 let⟨⟨S,i,r,R,Z,m,d⟩,_⟩:=X9 l A t;refine wpAny_notIn_heap c.room6 (δV z P) m d ?_;rw[HD.isSome r R p];show⟨.bl _,H,Xx 0,rfl,q⟩
def Tg{k:Nat}(c:vn X):γ7 (λx y H Q=>BY C y x H λn o=>∃p,o=a0 p/\∀v:V,RV C n H p v->Q v H):=by
 intro e l u s σ H x y v u Q I N M h W;let⟨n,h,p,n,a,U,O,P,rfl,Y,T,i,B,Z,q⟩:=h;cases N
 let⟨b,rfl⟩:=qI i P;cases M
 let⟨⟨D,L,r,j,G,J,d⟩,_⟩:=X9 O Y T;let t:=HD.val (a:=a) r j p;rw[Z]at t;cases E:atKey L p with
 |none=>rw[E]at t;show t.elim
 |some z=>
  rw[E]at t;let⟨g,R,m⟩:=t;refine vy <|vy<|VY d.typeIs PySem.F.slot_dict_getitem.lookup ?_;let f:wpAny (b8 X) X.A (subscripted l false (.ref a)<|.ref b) (λr S=>wpAny (b8 X) X.A (letTemporaryGo e (.ref a) r >>= λ_=>pure r) (EP X u σ Q) X.xe S) X.xe s:=by rw[W];show wpAny_operating<|wpAny_getItem_heap c.room6 (δV i P) d E<|vy<|wpAny_letTemporaryGo<|v8 ⟨g,H,Xx 0,R,q g m⟩
  first
   |exact v8 (vy f)
   |exact vy (v8 _)
   |exact vy f
abbrev vAt:PV->PV->PH->W_ 0:=λx y h=>match mT y x h with
 |some (a0 p)=>.ok p h
 |some a7=>.bad
 |none=>vIx x y h
def Th{k:Nat}{a b:g_}(A:c_ a ma)(hb:c_ b mb)(S:Ec b:=by intro _ _;rfl):c_ (.Subscript a b pos) (b7 ma mb):=λc=>
 (PZ ((ixC c.hu C.K c.K).or<|Tg c) (A c) (hb c) S).imp λm H Q h=>by
  let⟨s,z,h,R,E,p⟩:=Ek h;refine⟨s,z,h,R,E,p.imp ?_⟩;rintro v w ⟨s,z,h,R,E,p⟩;refine⟨s,z,h,R,E,p.imp ?_⟩;rintro u t ⟨s,h,p,q,R,x,y,P⟩;unfold vAt at P;cases e:mT q p h with
  |none=>rw[e]at P;show .inl<|QF ⟨s,h,p,q,R,x,y,P⟩
  |some o=>
   rw[e]at P;cases o with
   |none=>exact P.elim
   |some r=>exact .inr<|vF R y x e ⟨r,rfl,λn V=>P.val R V⟩
abbrev xN(x y v:PV)(h:PH):jh PH:=match x with
 |.ref n=>match Ao y,h[n]? with
  |some key,a0 (.dK kvs)=>if kvs.length<w9 then a0 (WY<|.dK<|cL kvs key v) else a7
  |some _,_=>a7
  |none,_=>if y.isKt=true then(match YK n with
   |some kvs=>if kvs.length<w9 then a0 (WY<|.dD<|cL kvs y v) else a7
   |none=>a7) else a7
 |_=>a7
def Du{κ:Type}[XR 0]{kvs:i_ (κ×PV)}{ks:i_ (κ×V)}(r:WR kvs ks)(a:κ):(XS a).isSome=(mE ks a).isSome:=by
 have:=yK r a;cases E:XS a with
 |none=>
  cases e:mE ks a with
  |none=>rfl
  |some v=>rw[E,e]at this;show this.elim
 |some p=>
  cases e:mE ks a with
  |none=>rw[E,e]at this;show this.elim
  |some v=>rfl
open H in
def BZ{κ:Type}[XR 0]{kvs:i_ (κ×PV)}{ks:i_ (κ×V)}(r:WR kvs ks)(a:κ){v:V}(R:Xq v):WR (cL kvs a p) (putK ks a v):=by
 unfold cL putK;rw[uK,Du r a];split
 ·rename_i x;clear x
  induction r with
  |nil=>exact .nil
  | @cons P q S Q h t i=>
   refine .cons ?_ i;by_cases e:P.1=a
   ·let E:=h.1.symm.trans e;simp[Yn 0,if_pos E];show⟨h.1,R⟩
   ·let E:=λz=>e<|h.1.trans z;simp[W5 0,if_neg E];show h
 ·show βb ⟨rfl,R⟩
variable{px py:PV}{xu yu:d6}
open H in
def yQ{k:Nat}{h':PH}{pv:PV}{x y v:V}(c:vn X)(rh:m_ h)(rx:b6 px x)(ry:b6 py y)(rv:b6 pv v)(e:xN px py pv h=a0 h'){σ:St}{Q:(Unit->d7->Prop)}(I:q_ s)(sd:C_ xu)(qi:P_ yu)(o7:WV vu)(q:∀s' H',β5 s'->L_ H'->Xl φ H' h'->Q () s'):wpAny (b8 X) X.A (setItem xu yu vu) Q X.xe s:=by
 unfold xN at e;cases px with
 |ref n=>
  let⟨a,rfl,ha⟩:=rx;cases sd
  dsimp only at e;split at e
  ·rename_i key kvs iz hk;split at e
   ·rename_i hl;cases e
    let⟨ks,hH,rk⟩:=αw hk;let ey:y=kV key:=HC ry iz;subst ey;let i5:ks.length<w9:=by rw[<-ze rk];show hl
    refine FF c.hu I (.k hH i5) qi o7 λs' I'=>q s' _ I' (Kp.dK hH) ?_;refine rh.write ha (by rw[hH];show UR) ⟨_,aJ,?_⟩;show(BZ rk key rv).mono wm (Kp.dK hH)
   ·cases e
  ·cases e
  ·split at e
   ·rename_i hk;split at e
    ·rename_i kvs ht;split at e
     ·rename_i hl;cases e
      let⟨b,rfl⟩:=qI hk ry;cases qi
      let⟨⟨ks,xs,r,u0,hz,hm,dd⟩,mu,nt⟩:=X9 rh ha ht;refine wpAny_setItem_heap (hsz:=hz) c.room6 (δV hk ry) dd λh' i7 hs=>?_;let⟨n8,r1,r2⟩:=HD.put (a:=a) r u0 (Ax hk) ry rv o7;let⟨o,es,ep,hq,h2,h3,h4,_,h5⟩:=i7;let qm:n8.length<=w9:=by
       let e1:=ze r1;let e2:(cL kvs py pv).length<=kvs.length+1:=by
        unfold cL;split
        ·rw[wd];omega
        ·simp
       omega
      refine q _ (YG<|dDO C.w a n8) (pW I mu hs ⟨o,hq⟩ ⟨⟨qm,hm,_,r2,o,es,ep,hq,h2,h3,?_,h5⟩,⟨o,hq⟩,?_⟩) (Kp.upd nt) ?_
      ·rw[h4,<-c.w];rfl
      ·rintro g1 g2 ⟨z1,z2,ws,z3,o',es',m6,z4,z5⟩ keep;show⟨z1,z2,ws,z3,o',es',m6,keep _ z4,z5⟩
      ·show rh.write ha nt ⟨n8,aJ,RKd.mono wm (Kp.upd nt) r1⟩
     ·cases e
    ·cases e
   ·cases e
 |_=>cases e
abbrev MtG(C:MC)(k:Nat)(X:Cx)(T:String)(ty:PV->PH->Bool)(id:String)(g:PV->x_ 0->PH->W_ 0):Prop:=vn X->δA (rM C g)/\
 ∀b9 s σ H φ h p x v,q_ s->m_ h->Xq x->C_ v->ty p h=true->δe T/\∀a,v=.ref a->∃ob,YH 0=a0 ob/\ob.dict=a7
def Os{k:Nat}{o:g_}{id:String}{g:PV->x_ 0->PH->W_ 0}(pa:PlainAttrs T)(t:γm id)(Y:typeOf (.builtin id)=pure (.type "method_descriptor"))(M:αx T ty id g)(K:c_ o mo)(L:Xo (e::es) ms)(b:αs (Yd 0)=Yd 0:=by rfl)(f:((YU (xq (e::es) X.env)).all (λx=>!x.1)&&(γn (keywordEach [] X.env)).all (λx=>x.1.isSome)
   && decide ((e::es).length+([]:αY 0).length+(if([]:αY 0).isEmpty then 0 else 1)<30))=true:=by rfl)(n:(apos.endLine == ab.line)=true:=by rfl)(J:xq (e::es) X.env=(false,xl 0)::Mm 0:=by rfl)(l:(YU (Mm 0)).any (·.1)=false:=by rfl):
  c_ (.Call (.Attribute o name apos) (e::es) [] ab) (mMt ty g mo ms):=λc i s y H Q I ⟨φ,Z,h,rh,E,p⟩=>by
 refine wpAny_Call_method_late b f n rfl<|thn (K c i s y H _ I ⟨φ,Z,h,rh,E,Yh 0⟩) ?_;rintro v S ⟨x,m,j,a,z,P,d,D,t1,r,R,q⟩;let⟨F,q⟩:=q.ite;let⟨G,O⟩:=(M c).2 i S y m z d P x v j r R a F;refine⟨T,id,pa,t,Y,G,O,?_⟩;let A:=L c ab i S y m _ j ⟨z,Z,d,r,E.mono D t1,postA.bind q⟩;rw[J]at A⊢;refine Wd (show(false || (YU _).any (·.1))=false by rw[l];rfl) (Calls.evalArgs_plain<|thn A ?_);rintro us s2 ⟨vs,W,U,r2,u,ps,N,B,t2,w,V,q2⟩;show(M c).1 i s2 y W x vs v us Q U a r2 ⟨u,N,P,ps,w,R.mono B t2,V,q2⟩
def MS{k:Nat}{o:g_}{id:String}{g:PV->x_ 0->PH->W_ 0}(a:PlainAttrs T)(t:γm id)(y:typeOf (.builtin id)=pure (.type "method_descriptor"))(M:αx T ty id g)(O:c_ o mo)(b:αs (Yd 0)=Yd 0:=by rfl)(l:(apos.endLine == ab.line)=true:=by rfl):c_ (.Call (.Attribute o name apos) [] [] ab) (xK ty g mo):=λc i s w H Q I ⟨W,Y,h,Z,E,p⟩=>by refine wpAny_Call_method0_late b l<|thn (O c i s w H _ I ⟨W,Y,h,Z,E,Yh 0⟩) ?_;rintro v S ⟨x,u,n,j,z,P,m,V,U,r,R,q⟩;let⟨d,q⟩:=q.ite;let⟨G,f⟩:=(M c).2 i S w u z m P x v n r R j d;show⟨T,id,a,t,y,G,f,Wd rfl<|PySem.evalArgs_none<|(M c).1 i S w u x [] v [] Q n j .nil ⟨z,m,P,[],r,R,trivial,q⟩⟩
abbrev cF(x:PV)(h:PH):Bool:=match x with
 |.ref n=>match h[n]? with
  |some (.dK _)=>true
  |some (.dD _)=>true
  |_=>false
 |_=>false
open H in
def qJ{k:Nat}(c:vn X):∀i s m H q h p x v,Xd i m H s->Xl q H h->RV C q H p x->C_ v->cF p h=true->δe "dict" /\ ∀a,v=.ref a->∃o,YH 0=a0 o/\o.dict=a7:=by
 intro i s m H q h p x v I R j r e;unfold cF at e;cases p with
 |ref n=>
  let⟨a,rfl,A⟩:=j;cases r
  dsimp only at e;split at e
  ·rename_i V t;let⟨S,l,f⟩:=R.at' n a _ A t;let⟨z,D,Y,L,d⟩:=γc l;refine⟨d.typeIs,λb E=>?_⟩;cases E
   let⟨o,_,_,y,u,_⟩:=d;show⟨o,y,u.2.1⟩
  ·rename_i V t;let⟨⟨S,W,r,g,Z,M,d⟩,_⟩:=X9 R A (by unfold aX;rw[t]);refine⟨d.typeIs,λb E=>?_⟩;cases E
   let⟨o,_,_,y,u,_⟩:=d;show⟨o,y,u.2.1⟩
  ·cases e
 |_=>cases e
abbrev G9(x:XQ 0):i_ (XQ 0)->i_ (XQ 0)
 |[]=>[x]
 |y::ys=>if cJ y x=true then y::G9 x ys else x::y::ys
abbrev rG:i_ (XQ 0)->i_ (XQ 0)
 |[]=>[]
 |x::xs=>G9 x (rG xs)
def rH(x:XQ 0):∀s,(G9 x s).Perm (x::s)
 |[]=>.refl _
 |y::s=>by
  unfold G9;split
  ·show((rH x s).cons y).trans (.swap x y s)
  ·show .refl _
def fS:∀s,(rG s).Perm s
 |[]=>.refl _
 |x::s=>(rH x _).trans ((fS s).cons x)
open H in
def sM{S:i_ Bool}{x:XQ 0}(X:shape x=S):∀{ys:i_ (XQ 0)},(∀y∈ys,shape y=S)->ys.Pairwise (λa b=>cJ b a=false)->(G9 x ys).Pairwise (λa b=>cJ b a=false)
 |[],_,_=>UE _ _
 |y::ys,v,p=>by
  let Y:=v y wa;let s:=λz H=>v z<|wb _ H;rw[zb]at p;unfold G9;split
  ·rename_i h;rw[zb];refine⟨λz H=>?_,sM X s p.2⟩;rcases wu.mp ((rH x ys).mem_iff.mp H) with rfl|H
   ·show Ej h
   ·show p.1 z H
  ·rename_i h;let w:cJ y x=false:=by simpa using h
   rw[zb];refine⟨λz H=>?_,zb.mpr p⟩;rcases wu.mp H with rfl|H
   ·show w
   ·show Ae (X.trans Y.symm) (Y.trans (s z H).symm) w (p.1 z H)
def oW{S:i_ Bool}:∀{xs:i_ (XQ 0)},(∀y∈xs,shape y=S)->(rG xs).Pairwise (λa b=>cJ b a=false)
 |[],_=>.nil
 |x::xs,h=>sM (h x wa) (λy H=>h y (YI<|(fS xs).mem_iff.mp H)) (oW λy H=>h y (YI H))
variable{S:i_ Bool}
def Dv{xs ys:i_ (XQ 0)}(s:∀y∈xs,shape y=S)(p:ys.Perm xs)(h:ys.Pairwise (λa b=>cJ b a=false)):ys=rG xs:=by refine Vo (λa b A B H z=>?_) h (oW s)<|p.trans (fS xs).symm;show qC ((s a<|p.mem_iff.mp A).trans (s b<|(fS xs).mem_iff.mp B).symm) z H
abbrev kP:Key->PV
 |.inl i=>.int i
 |.inr x=>.str x
@[simp]theorem S5(a:Key):Ao (kP a)=a0 a:=by cases a <;> rfl
abbrev Ex:x_ 0->jh (XQ 0)
 |[]=>a0 []
 |x::xs=>match Ao x,Ex xs with
  |some a,a0 r=>a0 (a::r)
  |_,_=>a7
@[simp]theorem HW:∀ks:XQ 0,Ex (ks.map kP)=a0 ks
 |[]=>rfl
 |a::ks=>by simp[Ex,HW ks]
abbrev tP(ks:XQ 0):PV:=.tup<|ks.map kP
abbrev yR:x_ 0->jh (i_<|i_ Key)
 |[]=>a0 []
 |.tup xs::r=>match Ex xs,yR r with
  |some a,a0 b=>a0 (a::b)
  |_,_=>a7
 |_::_=>a7
@[simp]theorem vG:∀ks:i_ (XQ 0),yR (ks.map tP)=a0 ks
 |[]=>rfl
 |a::ks=>by simp[yR,tP,vG ks]
abbrev Ay(ai:i_ (XQ 0)):Bool:=match ai with
 |[]=>true
 |a::r=>(!a.isEmpty)&&r.all λx=>shape x == shape a
variable{ai:i_ (XQ 0)}
def Dw(h:Ay ai=true):∃b S,∀s∈ai,shape s=b::S:=by
 cases ai with
 |nil=>exact⟨true,[],λ_ h=>nomatch h⟩
 |cons a r=>
  unfold Ay at h;rw[yq]at h;cases a with
  |nil=>cases h.1
  |cons z Z=>
   refine⟨oV z,shape Z,λs k=>?_⟩;rcases wu.mp k with rfl|k
   ·rfl
   ·have:=xi.mp h.2 s k;show eq_of_beq this
section
variable{k:Nat}
def RH.same(r:m_ h)(s:wY H H1):Xl φ H1 h:=⟨r.len,r.nd,λn b o z y=>by let q:=Zj b o z y;let⟨u,U⟩:=q.some;show q.stay wm (Kp.same s)<|(s _ _ U).trans U.symm⟩
open H in
def Lj{a b:Str}:cJ [.inr a] [.inr b]=decide (a.cps.toList<b.cps.toList):=by
 unfold cJ;split
 ·rename_i e;cases e
  simp[cJ,List.lt_irrefl]
 ·rfl
def sN:∀{r:yp 0}{p:Str},risingS p r=true->((p::r).map λx=>[(UL x:Key)]).Pairwise (λa b=>cJ b a=false)
 |[],p,_=>UE _ _
 |x::r,p,h=>by
  let h0:cJ [.inr x] [.inr p]=false/\risingS x r=true:=by unfold risingS at h;rw[yq,ltCps_eq]at h;rw[Lj];show⟨cA h.1,h.2⟩
  let ih:=sN h0.2;rw[xg,zb];refine⟨λz hz=>?_,ih⟩;let⟨y,hy,rfl⟩:=wo.mp hz;rcases wu.mp hy with rfl|hy
  ·show h0.1
  ·rw[xg,zb]at ih;show Ae (a:=[.inr p]) (b:=[.inr x]) (c:=[.inr y]) rfl rfl h0.1<|ih.1 _<|wo.mpr ⟨y,hy,rfl⟩
def Az{φ:i_ d8}{H:Hp}:∀{ss:yp 0}{vs:i_ V},c9 (δW 0) vs↔vs=ss.map V.str
 |[],[]=>by simp[RVs]
 |[],_::_=>by simp[RVs]
 |_::_,[]=>by simp[RVs]
 |x::ss,v::vs=>by simp only[xg,RVs,List.cons.injEq];show and_congr Iff.rfl Az
end
open PySem
@[simp]theorem Pp{x:PV}:mT x (.str z) h=a7:=(rfl)
@[simp]theorem R'{i:Int}:mT (.int i) y h=a7:=by cases y <;> rfl
@[simp]theorem Ra{i:Str}:mT (.str i) y h=a7:=by cases y <;> rfl
@[simp]theorem S6:vAt (.str z) y h=vIx (.str z) y h:=by unfold vAt;simp
@[simp]theorem S7{x:PV}{i:Int}:vAt x (.int i) h=vIx x (.int i) h:=by unfold vAt;simp
@[simp]theorem S8{x:PV}{i:Str}:vAt x (.str i) h=vIx x (.str i) h:=by unfold vAt;simp
def C0{kvs:i_ (Key×PV)}(e:h[n]?=a0 (.dK kvs)):cF (.ref n) h=true:=by unfold cF;simp[e]
def Lk{kvs:i_ (Key×PV)}{z:PV}(e:h[n]?=a0 (.dK kvs))(c:kvs.length<16777216):xN (.ref n) (.str x) z h=a0 (WY<|.dK<|cL kvs (.inr x) z):=by simp[xN,e,Ao,c]
abbrev sO{κ:Type}[XR 0](kvs:i_ (κ×PV))(a:κ):i_ (κ×PV):=kvs.filter λkv=>decide (kv.1≠a)
abbrev iY(h:PH)(d:Nat):jh (x_ 0):=match h[d]? with
 |some (.dK kvs)=>a0 (kvs.map (·.2))
 |some (.dD kvs)=>a0 (kvs.map (·.2))
 |_=>a7
def vH{K:Type}[DecidableEq K]{knd:KeyKind prog w K}{es:i_ UU}{kvs:i_ (K×d6)}(h:Pairs knd es kvs):es.map (·.val)=kvs.map (·.2):=by
 apply UX;intro i;rw[xf,xf];let l:=h.length;by_cases I:i<es.length
 ·let e:es[i]?=a0 es[i]:=by simp
  let H:i<kvs.length:=⋯;let E:kvs[i]?=a0 (kvs[i].1,kvs[i].2):=by simp[H]
  rw[e,E];show αR (h.get? e E).2
 ·rw[UY ⋯,UY ⋯];rfl
open H in
def vI{k:Nat}{σ:St}{d:Nat}{b:d8}(c:vn X)(I:q_ s)(a:m_ h)(hb:φ[d]?=a0 b)(e:iY h d=a0 xs):
  s.TypeIs (.ref b) "dict" /\ (b == Uy)=false/\xs.length<=w9/\∃o E p,oa 0=a0 o/\o.data=.dict E p/\∃W,c9 xs W/\aI W (E.toList.map (·.val)):=by
 unfold iY at e;split at e
 ·rename_i v y;cases e
  let⟨S,j,f⟩:=a.at' d b _ hb y;let⟨z,V,U,R,D⟩:=γc j;refine⟨D.typeIs,V,by rw[wd,ze f];show z,?_⟩;let⟨o,E,p,u,Y,n,g,G,m⟩:=D;refine⟨o,E,p,u,n,S.map (·.2),?_,?_⟩
  ·clear y j R z
   induction f with
   |nil=>trivial
   |cons q t i=>exact⟨q.2,i⟩
  ·rw[vH G];clear y j g G m z;clear f
   induction R with
   |nil=>exact .nil
   |cons q t i=>exact .cons q.2 i
 ·rename_i v y;cases e
  let T:YK d=a0 v:=by unfold aX;rw[y]
  let⟨⟨S,Q,r,x,Z,M,D⟩,_⟩:=X9 a hb T;let l:=(ze r).trans<|ze x;refine⟨D.typeIs,M,by rw[wd,l];show Z,?_⟩;let⟨o,E,p,u,Y,n,g,G,m⟩:=D;refine⟨o,E,p,u,n,S.map (·.2.2),?_,?_⟩
  ·clear y T x l
   induction r with
   |nil=>trivial
   |cons q t i=>exact⟨q.2.2.2,i⟩
  ·rw[g];clear y T r l Z g G m
   induction x with
   |nil=>exact .nil
   |cons q t i=>exact .cons q.2.2 i
 ·cases e
abbrev yS:PV->x_ 0->PH->W_ 0:=λx ps h=>match x,ps with
 |.ref n,[]=>match iY h n with
  |some _=>.ok (.ref h.length) (h++[.vw 1 n])
  |none=>.bad
 |_,_=>.bad
open H in
def m_values{k:Nat}:αx "dict" cF "dict.values" yS:=λc=>⟨λi s g H x S v U Q I t w h=>by
 let⟨q,h,p,j,r,z,R,P⟩:=h;unfold yS at P;split at P
 ·split at P
  ·rename_i Y y;let⟨a,rfl,A⟩:=z;have:S=[]:=by cases S <;> first|rfl|exact R.elim
   subst this;cases t
   cases w
   let⟨T,m,_⟩:=vI c I r A y;refine call_meetsIn PySem.F.slot_dict_values T PySem.F.entry_dict_values (PySem.F.args_dict_values_1 _) (Ag a m) ⟨T,?_⟩;let f:=I.fresh;refine⟨.ref _,_,I.laid (o:=BP 1 ((s).heap.objs.size) a) (λb u e=>W4 e) (wj _) ?_,rfl,?_⟩
   ·show⟨⟨_,XO rfl,rfl,rfl⟩,⟨_,XO rfl⟩,λn l ⟨o,e,p⟩ k=>⟨o,k o e,p⟩⟩
   ·show P _ _ _ (zp _ _) (Kp.new f) (r.new f ⟨a,dW (zp _ _) A,aJ⟩) ⟨_,rfl,by rw[<-r.len];simp⟩
  ·show P.elim
 ·show P.elim,qJ c⟩
abbrev iF(h:PH)(n:Nat):jh (x_ 0):=match h[n]? with
 |some (.vw 1 d)=>iY h d
 |_=>a7
abbrev vJ:x_ 0->PH->W_ 0:=λxs h=>match xs with
 |[.ref n]=>match iF h n with
  |some ys=>.ok (.ref h.length) (h++[.lst ys])
  |none=>BR xs h
 |_=>BR xs h
variable{acc:y_ 0}
def C1{es:Y8 0}(h:ItemsOf (λi v=>∃e,es[i]?=a0 e/\v=e.val) acc es.size):acc.toList=es.toList.map (·.val):=by
 apply UX;intro i;rw[xf,UB,UB];by_cases I:i<acc.size
 ·let E:acc[i]?=a0 acc[i]:=by simp
  let⟨e,H,z⟩:=h.2 i _ E;rw[E,H,z];rfl
 ·let y:¬ i<es.size:=by rw[<-h.1];show I
  rw[zw ⋯,zw ⋯];rfl
def Dx{k:Nat}(c:vn X):δu (.type "list") (λS H Q=>∃(y:i_ d8)(h:PH)(n:Nat)(a:d8)(d:Nat)(b:d8)(Y:x_ 0),S=[.ref a]/\Xl y H h/\y[n]?=a0 a/\y[d]?=a0 b/\H a=a0 (BP 1 a b)/\iY h d=a0 Y/\∀l w,H l=a7->Zd y H Y w->Q (.ref l) (t_ l<|.lst w)):=by
 intro p s D H S F Q I r h;let⟨y,h,n,a,d,b,Y,rfl,i,O,B,m,t,q⟩:=h;let⟨u,rfl,U⟩:=vals1 r;cases U
 let⟨T,M,Z,L,e,P,g,G,w,R,x⟩:=vI c I i B t;let N:e.size<=w9:=by
  let E:w.length=e.size:=by have:=x.length;simpa using this
  rw[<-E,<-R.length];show Z
 refine PySem.W.kdl_call (BK G) (XT 0) ⟨(α8 m).1,g⟩ N λf J A v K j z=>?_;refine⟨.ref _,_,I.laid (o:=.lst w) K (wj _) ⟨?_,A.toList,v,by rw[C1 z];show x,by rw[Array.toArray_toList];show j⟩,rfl,q _ w I.fresh R⟩;rw[<-R.length];show Z
open H in
def Ll{k:Nat}:Yj (.type "list") vJ:=λc=>bX.imp (bX.or (O8 c)<|Dx c) λS H Q h=>by
 let⟨z,h,P,r,R,p⟩:=h;unfold vJ at p;split at p
 ·rename_i n;split at p
  ·rename_i s e;unfold iF at e;split at e
   ·rename_i d V;let⟨v,rfl,⟨a,rfl,A⟩⟩:=R.one;let⟨b,B,y⟩:=Zj a _ A V;show .inr ⟨z,h,n,a,d,b,s,rfl,r,A,B,y,e,λl W L w=>p.lnew r w L⟩
   ·cases e
  ·show .inl ⟨z,h,_,r,R,p⟩
 ·show .inl ⟨z,h,_,r,R,p⟩
def tS(e:h[n]?=a0 (.dK [])):YK n=a0 []:=by simp[aX,e]
def tT(e:h[n]?=a0 (.dD kvs)):YK n=a0 kvs:=by simp[aX,e]
open PySem.SeqAt PySem.W
abbrev vK(l:v_ 0):Zg 0:=l.map (λ(c:Nat)=>(c:Int)+2)++[1]
mutual
def enc:PV->Zg 0
 |.int i=>[i]
 |.str x=>vK x.cps.toList
 |.tup xs=>qK xs
 |_=>[]
def qK:x_ 0->Zg 0
 |[]=>[0]
 |x::xs=>1::(enc x++qK xs)
end
def Pq(a)(l):vK (a::l)=((a:Int)+2)::vK l:=rfl
def Ey:∀(a b)(s t),a≠b->((vK a++s<vK b++t)↔a<b)
 |[],[],_,_,h=>(h rfl).elim
 |[],b::B,s,t,_=>by
  change(1::s<((b:Int)+2)::(vK B++t))↔_
  rw[Uh];constructor
  ·intro _;show List.nil_lt_cons _ _
  ·intro _;left;omega
 |a::A,[],s,t,_=>by
  change(((a:Int)+2)::(vK A++s)<1::t)↔_
  constructor
  ·rintro(h|⟨h,_⟩) <;> omega
  ·intro h;show(List.not_lt_nil _ h).elim
 |a::A,b::B,s,t,h=>by
  change(((a:Int)+2)::(vK A++s)<((b:Int)+2)::(vK B++t))↔_
  rw[Uh,Uh];by_cases e:a=b
  ·subst e;let i:=Ey A B s t (λz=>h<|by rw[z]);constructor
   ·rintro(H|⟨_,H⟩)
    ·omega
    ·show .inr ⟨rfl,i.mp H⟩
   ·rintro(H|⟨_,H⟩)
    ·omega
    ·show .inr ⟨rfl,i.mpr H⟩
  ·constructor
   ·rintro _ <;> (left;omega)
   ·rintro(H|⟨H,_⟩)
    ·left;omega
    ·show(e H).elim
def Dy:∀(n:Nat)(x y:PV)(c:Bool)(s t:Zg 0),x≠y->ltP n x y=a0 c->((enc x++s<enc y++t)↔c=true):=by
 intro n;let o:∀(a b:Int)(c:Bool)(s t:Zg 0),PV.int a≠.int b->a0 (decide (a<b))=a0 c->(([a]++s < [b]++t)↔c=true):=λa b c s t h e=>by
  cases e
  change(a::s<b::t)↔_
  rw[Uh,decide_eq_true_eq];constructor
  ·rintro(H|⟨H,_⟩)
   ·show H
   ·show((λz=>h<|by rw[z]) H).elim
  ·intro H;show .inl H
 let w:∀(a b:Str)(c:Bool)(s t:Zg 0),PV.str a≠.str b->a0 (decide (a.cps.toList<b.cps.toList))=a0 c->((vK a.cps.toList++s<vK b.cps.toList++t)↔c=true):=λa b c s t h e=>by
  cases e
  rw[Ey _ _ s t<|λz=>h<|by rw[Ei z],decide_eq_true_eq]
 induction n with
 |zero=>intro x y c s t h e;cases x <;> cases y <;> first|exact o _ _ c s t h e|exact w _ _ c s t h e|(simp[ltP]at e)
 |succ n I=>
  let i:∀(X Y:x_ 0)(c:Bool)(s t:Zg 0),X≠Y->ltL (ltP n) X Y=a0 c->((qK X++s<qK Y++t)↔c=true):=by
   intro X
   induction X with
   |nil=>
    intro Y c s t h e;cases Y with
    |nil=>exact(h rfl).elim
    |cons y Y=>
     cases e
     change(0::s<1::((enc y++qK Y)++t))↔_
     rw[Uh];constructor
     ·intro _;rfl
     ·intro _;left;omega
   |cons x X r=>
    intro Y c s t h e;cases Y with
    |nil=>
     cases e
     change(1::((enc x++qK X)++s)<0::t)↔_
     rw[Uh];constructor
     ·rintro(H|⟨H,_⟩) <;> omega
     ·intro H;cases H
    |cons y Y=>
     change(1::((enc x++qK X)++s)<1::((enc y++qK Y)++t))↔_
     let E:(if x=y then ltL (ltP n) X Y else ltP n x y)=a0 c:=e;rw[Uh,wy,wy];let k:(enc x++(qK X++s)<enc y++(qK Y++t))↔c=true:=by
      by_cases v:x=y
      ·rw[if_pos v]at E;subst v;have:=r Y c s t (λz=>h<|by rw[z]) E;rw[<-this];let u:∀l:Zg 0,(l++(qK X++s)<l++(qK Y++t))↔(qK X++s<qK Y++t):=λl=>by
        induction l with
        |nil=>exact Iff.rfl
        |cons a l I=>
         change(a::(l++_)<a::(l++_))↔_
         rw[Uh,I];constructor
         ·rintro(H|⟨_,H⟩)
          ·omega
          ·show H
         ·intro H;show .inr ⟨rfl,H⟩
       show u _
      ·rw[if_neg v]at E;show I x y c _ _ v E
     rw[k];constructor
     ·rintro(H|⟨_,H⟩)
      ·omega
      ·show H
     ·intro H;show .inr ⟨rfl,H⟩
  intro x y c s t h e;cases x <;> cases y <;> first|exact o _ _ c s t h e|exact w _ _ c s t h e|(simp[ltP]at e;done)|exact i _ _ c s t (λz=>h<|by rw[z]) e
abbrev ltN(x y:PV):Bool:=decide (enc x<enc y)
def C2{f:PV->PV->Y4 0}:∀s,ltL f s s=δw 0
 |[]=>rfl
 |x::s=>by
  change(if x=x then ltL f s s else f x x)=δw 0
  rw[if_pos rfl];show C2 s
variable{c:Bool}
def HX{x:PV}(h:ltP n x x=a0 c):c=false:=by
 let s:∀{z:Str}{c:Bool},a0 (decide (z.cps.toList<z.cps.toList))=a0 c->c=false:=λ{z c} e=>by
  cases e
  show decide_eq_false<|List.lt_irrefl _
 let t:∀{z:Int}{c:Bool},a0 (decide (z<z))=a0 c->c=false:=λ{z c} e=>by
  cases e
  show decide_eq_false<|Int.lt_irrefl _
 cases n with
 |zero=>
  cases x with
  |int i=>exact t h
  |str i=>exact s h
  |_=>simp[ltP]at h
 |succ n=>
  cases x with
  |tup X=>
   let H:ltL _ X X=a0 c:=h;rw[C2]at H;cases H
   rfl
  |int i=>exact t h
  |str i=>exact s h
  |_=>simp[ltP]at h
def Lm(x:PV):ltN x x=false:=decide_eq_false<|List.lt_irrefl _
def AA{x:PV}(h:ltP n x y=a0 c):ltN x y=c:=by
 by_cases e:x=y
 ·subst e;rw[HX h];show Lm x
 ·have:=Dy n x y c [] [] e h;rw[Ua,Ua]at this;cases c with
  |true=>exact decide_eq_true<|this.mpr rfl
  |false=>exact decide_eq_false λz=>by cases this.mp z
def Ln{x:PV}(h:ltP n x y=a0 c)(e:enc x=enc y):x=y:=by
 by_cases X:x=y
 ·show X
 ·let H:=Dy n x y c [0] [1] X h;let z:=Dy n x y c [1] [0] X h;rw[e]at H z;let u:∀(l s t:Zg 0),(l++s<l++t)↔(s<t):=λl s t=>by
   induction l with
   |nil=>exact Iff.rfl
   |cons a l i=>
    change(a::(l++_)<a::(l++_))↔_
    rw[Uh,i];constructor
    ·rintro(H|⟨_,H⟩)
     ·omega
     ·show H
    ·intro H;show .inr ⟨rfl,H⟩
  rw[u]at H z;let T:¬ ([1]:Zg 0) < [0]:=by decide
  show(T<|z.mpr<|H.mp<|by decide).elim
def Dz{a b c:PV}(h1:ltN b a=false)(h2:ltN c b=false):ltN c a=false:=decide_eq_false<|Wa.mpr<|List.le_trans (Wa.mp<|of_decide_eq_false h1)<|Wa.mp<|of_decide_eq_false h2
def DA{a b:PV}(h:ltN a b=true):ltN b a=false:=decide_eq_false<|List.lt_asymm<|of_decide_eq_true h
def Ot{a b:PV}(h1:ltN a b=false)(h2:ltN b a=false):enc a=enc b:=List.le_antisymm (Wa.mp<|of_decide_eq_false h2)<|Wa.mp<|of_decide_eq_false h1
section
variable{α:Type}(key:α->PV)
abbrev pE(x:α):ZH 0->ZH 0
 |[]=>[x]
 |y::ys=>if ltN (key y) (key x) then y::pE x ys else x::y::ys
abbrev eY:ZH 0->ZH 0
 |[]=>[]
 |x::xs=>δX (eY xs)
def rJ(x:α):∀s,(δX s).Perm (x::s)
 |[]=>.refl _
 |y::s=>by
  unfold pE;split
  ·show((rJ x s).cons y).trans (.swap x y s)
  ·show .refl _
def iG:∀s,(eY key s).Perm s
 |[]=>.refl _
 |x::s=>(rJ key x _).trans ((iG s).cons x)
open H in
def sP(x:α):∀{ys:ZH 0},ys.Pairwise (λa b=>ltN (key b) (key a)=false)->(δX ys).Pairwise (λa b=>ltN (key b) (key a)=false)
 |[],_=>UE _ _
 |y::ys,h=>by
  unfold pE;rw[zb]at h;split
  ·rename_i t;rw[zb];refine⟨λz H=>?_,sP x h.2⟩;rcases wu.mp ((rJ key x ys).mem_iff.mp H) with rfl|H
   ·show DA t
   ·show h.1 z H
  ·rename_i t;let l:ltN (key y) (key x)=false:=by simpa using t
   rw[zb];refine⟨λz H=>?_,zb.mpr h⟩;rcases wu.mp H with rfl|H
   ·show l
   ·show Dz l (h.1 z H)
def gS:∀s,(eY key s).Pairwise (λa b=>ltN (key b) (key a)=false)
 |[]=>.nil
 |x::s=>sP key x (gS s)
def yT{xs ys:ZH 0}(i:∀a∈xs,∀b∈xs,enc (key a)=enc (key b)->a=b)(p:ys.Perm xs)(h:ys.Pairwise (λa b=>ltN (key b) (key a)=false)):ys=eY key xs:=by refine Vo (λa b A B H z=>?_) h (gS key xs)<|p.trans (iG key xs).symm;show i a (p.mem_iff.mp A) b ((iG key xs).mem_iff.mp B)<|Ot z H
end
def DB:∀{xs:x_ 0}{ds:i_ D},δQ 0=a0 ds->xs.length=ds.length
 |[],ds,h=>by cases h;rfl
 |x::xs,ds,h=>by let⟨d,r,_,H,rfl⟩:=cE h;simp[DB H]
def HY:∀{xs:x_ 0}{ds:i_ D}{j:Nat}{d:D},δQ 0=a0 ds->ds[j]?=a0 d->∃x,xs[j]?=a0 x/\x.d=a0 d
 |[],ds,j,d,h,e=>by cases h;simp at e
 |x::xs,ds,j,d,h,e=>by
  let⟨z,r,H,w,rfl⟩:=cE h;cases j with
  |zero=>
   have:z=d:=by simpa using e
   show⟨x,rfl,by rw[H,this]⟩
  |succ j=>
   let⟨y,a,b⟩:=HY w<|cA e;show⟨y,cA a,b⟩
def mU:∀(n)(p:PV),p.ky n=true->p.pl n=true:=by
 intro n
 induction n with
 |zero=>intro p h;cases p <;> first|rfl|cases h
 |succ n i=>
  intro p h;cases p with
  |tup x=>
   change x.all _=true
   rw[xi];show λy H=>i y (xi.mp (show x.all _=true from h) y H)
  |_=>first|rfl|cases h
def HZ:∀(n:Nat){A:d_}{s:d7}{p q:PV}{v u:d6}{b:Bool},p.ky n=true->q.ky n=true->A.units+n<cLine->z_ p v->z_ q u->ltP n p q=a0 b->δj b:=by
 intro n;let N:∀{A:d_}{s:d7}{i j:Int}{v u:d6}{b:Bool},z_ (.int i) v->z_ (.int j) u->a0 (decide (i<j))=a0 b->δj b:=λ{A s i j v u b} r R e=>by
  let⟨t,rfl⟩:=r;let⟨t',rfl⟩:=R;cases e
  show λo w E Q q=>(PyProof.Rows.lt_int q:wpAny (model o w) A (zt .Lt _ _) Q E s)
 let W:∀{A:d_}{s:d7}{i j:Str}{v u:d6}{b:Bool},z_ (.str i) v->z_ (.str j) u->a0 (decide (i.cps.toList<j.cps.toList))=a0 b->δj b:=λ{A s i j v u b} r R e=>by
  let⟨t,rfl⟩:=r;let⟨t',rfl⟩:=R;cases e
  show λo w E Q q=>(PyProof.Rows.lt_str q:wpAny (model o w) A (zt .Lt _ _) Q E s)
 induction n with
 |zero=>
  intro A s p q v u b h k hu r R e;cases p with
  |int i=>
   cases q with
   |int j=>exact N r R e
   |_=>simp[ltP]at e
  |str i=>
   cases q with
   |str j=>exact W r R e
   |_=>simp[ltP]at e
  |_=>cases h
 |succ n ih=>
  intro A s p q v u b h k hu r R e;cases p with
  |int i=>
   cases q with
   |int j=>exact N r R e
   |_=>simp[ltP]at e
  |str i=>
   cases q with
   |str j=>exact W r R e
   |_=>simp[ltP]at e
  |tup ps=>
   cases q with
   |tup qs=>
    let⟨a,S,rfl,p1,X⟩:=r;let⟨a',I,rfl,p2,z⟩:=R;let⟨d,C,_⟩:=HU (n+1) _<|mU _ _ h;let⟨d',H,_⟩:=HU (n+1) _<|mU _ _ k;let l:=MR (n+1) _ _ d d' (mU _ _ h) (mU _ _ k) C H;rw[e]at l;let⟨V,G,rfl⟩:=bQ C;let⟨P,B,rfl⟩:=bQ H;let⟨⟨cls,dd,X,sl⟩,g,t,m,T⟩:=id p1;let⟨⟨C,f,g,L⟩,O,c,m2,D⟩:=id p2;simp only at t T c D;subst t T c D;intro o w E Q Z;refine richCompare_meets_room (op:=.Lt) ⟨_,g,rfl⟩ ⟨_,O,rfl⟩ PySem.F.slot_tuple_lt PySem.F.entry_tuple_lt (PySem.F.args_tuple_lt_2 _ _) (Av a a' S.toArray I.toArray m m2 dd f sl L V P b<|by simpa[ltD] using l)
     ⟨g,O,⟨?_,?_,?_⟩,show Value.bool b≠Value.notImplemented/\Q (.bool b) s from⟨(λx=>nomatch x),Z⟩⟩ ⋯
    ·let l1:=X.length;let l2:=DB G
     change S.length=V.length
     omega
    ·let l1:=z.length;let l2:=DB B
     change I.length=P.length
     omega
    ·intro j v u d e h1 h2 h3 h4;let⟨x,a,M⟩:=HY G h3;let⟨y,m,J⟩:=HY B h4;let⟨v',hv,f⟩:=X.at a;let⟨u',eh,L⟩:=z.at m;let e1:v=v':=by simp_all
     let e2:u=u':=by simp_all
     subst e1 e2;let K:=(xi.mp h) x<|ye a;let Y:=(xi.mp k) y<|ye m;let U:A.in1.units+n<cLine:=by change A.units+1+n<cLine;omega
     refine⟨?_,λ_ b hb=>?_⟩
     ·rw[MQ n x y d e (mU _ _ K) (mU _ _ Y) M J];show Ah K Y U f L
     ·rw[MR n x y d e (mU _ _ K) (mU _ _ Y) M J]at hb;show ih K Y U f L hb
   |_=>simp[ltP]at e
  |_=>cases h
section
abbrev I0:x_ 0->Prop
 |.tup _::_=>False
 |_=>True
def yU{b fin:Bool}{n:Nat}{Q:(Bool->d7->Prop)}(m:A.units+n<cLine):∀(P S:x_ 0)(U x:Xu 0)(i:Nat)(c),(∀p∈P,p.ky n=true)->(∀q∈S,q.ky n=true)->αF P U->αF S x->ltL (ltP n) P S=a0 c->((b&&i == 0)=true->I0 P)->fin=decide (P.length<S.length)->Q c s->KatLex prog w A b fin Q (U.zip x) i s
 |[],[],[],[],i,c,_,_,_,_,C,_,f,h=>by
  cases C
  rw[f];show h
 |[],q::S,[],u::x,i,c,_,_,_,_,C,_,f,h=>by
  cases C
  rw[f];show h
 |p::P,[],u::U,[],i,c,_,_,_,_,C,_,f,h=>by
  cases C
  rw[f];show h
 |p::P,q::S,u::U,v::x,i,c,l,j,y,R,C,N,f,h=>by
  let H:(if p=q then ltL (ltP n) P S else ltP n p q)=a0 c:=C;let k:=l p wa;let K:=j q wa;refine kat_cons<|Ah k K m y.1 R.1 prog w _ _ ?_;by_cases o:p=q
  ·rw[if_pos o]at H;rw[decide_eq_true o];refine kat_yes (yU m P S U x (i+1) c (λz Z=>l z<|wb _ Z) (λz Z=>j z<|wb _ Z) y.2 R.2 H (λz=>?_) ?_ h)
   ·cases b <;> simp at z
   ·rw[f];simp
  ·rw[if_neg o]at H;rw[decide_eq_false o];refine kat_no ?_;cases B:(b&&i == 0) with
   |false=>exact kat_one _ _<|HZ n k K m y.1 R.1 H prog w _ _ h
   |true=>
    cases p with
    |tup _=>exact(N B).elim
    |int a=>
     cases q with
     |int d=>
      let⟨t,rfl⟩:=y.1;let⟨T,rfl⟩:=R.1;let e:decide (a<d)=c:=by cases n <;> exact yi H
      rw[<-e]at h;show oneLt_int h
     |_=>cases n <;> simp[ltP]at H
    |str a=>
     cases q with
     |str d=>
      let⟨t,rfl⟩:=y.1;let⟨T,rfl⟩:=R.1;let e:decide (a.cps.toList<d.cps.toList)=c:=by cases n <;> exact yi H
      rw[<-e]at h;show oneLt_str h
     |_=>cases n <;> simp[ltP]at H
    |_=>exact y.1.elim
 |[],_,_::_,_,_,_,_,_,r,_,_,_,_,_=>r.elim
 |_::_,_,[],_,_,_,_,_,r,_,_,_,_,_=>r.elim
 |_,[],_,_::_,_,_,_,_,_,r,_,_,_,_=>r.elim
 |_,_::_,_,[],_,_,_,_,_,r,_,_,_,_=>r.elim
def C3{q:PV}{Q:(Bool->d7->Prop)}(U:A.units+n<cLine)(k:p.ky (n+1)=true)(K:q.ky (n+1)=true)(tp:∃P,p=.tup P/\(b=true->I0 P))(T:∃S,q=.tup S)(r:z_ p v)(r':z_ q u)(H:ltP (n+1) p q=a0 c)(h:Q c s):
  cu (keyLt' (tuples' b) v u) Q E s:=by
 let⟨P,rfl,N⟩:=tp;let⟨S,rfl⟩:=T;let⟨a,t,rfl,⟨O,o,_,m,d⟩,x⟩:=r;let⟨l,i,rfl,⟨Y,y,_,M,D⟩,R⟩:=r';refine kat_lt o d y D ?_;let e:decide (t.toArray.size<i.toArray.size)=decide (P.length<S.length):=by simp[x.length,R.length]
 rw[e];show yU U P S t i 0 c (xi.mp k) (xi.mp K) x R H (λz=>N (by cases b <;> simp at z;rfl)) rfl h
abbrev fk:PV->Nat
 |.tup (.int _::_)=>0
 |.tup (.str _::_)=>1
 |.tup (.tup _::_)=>2
 |_=>3
abbrev fkT(m:Nat):d6:=.type (if m=0 then "int" else if m=1 then "str" else "tuple")
def vL{m:Nat}(M:m<3):∀{ps:x_ 0}{vs:Xu 0},αF ps vs->(∀p∈ps,fk p=m)->∃F,F.length=vs.length/\KatTups s.heap vs F/\∀f∈F,Looks (Q_ w) s.heap (typeOf f) (fkT m)
 |[],[],_,_=>⟨[],rfl,KatTups.nil,λ_ q=>nomatch q⟩
 |p::ps,v::vs,r,S=>by
  let⟨F,l,j,u⟩:=vL M r.2 λx e=>S x<|wb _ e;let h:=S p wa;cases p with
  |tup z=>
   let⟨a,I,rfl,⟨o,k,C,n,d⟩,X⟩:=r.1;cases z with
   |nil=>simp[fk]at h;omega
   |cons x z=>
    cases I with
    |nil=>exact X.elim
    |cons f I=>
     refine⟨f::F,by simp[l],KatTups.cons k C d (by simp) j,λg H=>?_⟩;rcases wu.mp H with rfl|H
     ·let R:=X.1;cases x with
      |int i=>let⟨t,rfl⟩:=R;have:m=0:=h.symm;subst this;show Looks.now
      |str i=>let⟨t,rfl⟩:=R;have:m=1:=h.symm;subst this;show Looks.now
      |tup i=>let⟨y,T,rfl,⟨b,O,c,N,D⟩,_⟩:=R;have:=h.symm;subst this;have:Looks (Q_ w) _ (typeOf<|.ref y) b.cls:=(Looks.ld O).andThen .now;rw[c]at this;show this
      |_=>exact R.elim
     ·show u g H
  |_=>simp[fk]at h;omega
 |[],_::_,r,_=>r.elim
 |_::_,[],r,_=>r.elim
def Ez(H:m<3){ps:x_ 0}{Q:(VR->d7->Prop)}(r:αF ps vs)(S:∀p∈ps,fk p=m)(z:0<vs.length)(h:Q (tuples'<|decide (m≠2)) s):cu (keyKind' vs.toArray) Q E s:=by
 let⟨f,l,t,T⟩:=vL H r S;refine kat_kind t ⋯ T ?_ ?_
 ·match m,H with
  |0,_=>rfl
  |1,_=>rfl
  |2,_=>rfl
 ·have:((fkT m) != Wo "tuple")=decide (m≠2):=by
   match m,H with
   |0,_=>rfl
   |1,_=>rfl
   |2,_=>rfl
  rw[this];show h
end
structure OkN(m:Nat)(xs:i_ PV):Prop where
 m3:m<3
 ky:∀x∈xs,x.ky 20=true
 fk:∀x∈xs,fk x=m
 lt:∀x∈xs,∀y∈xs,(ltP 20 x y).isSome=true
def OkN.inj(h:OkN m xs):∀a∈xs,∀b∈xs,enc a=enc b->a=b:=λa H b B e=>by let⟨c,C⟩:=y4.mp<|h.lt a H b B;show Ln C e
def AB(M:m<3)(h:fk p=m):∃P,p=.tup P/\(decide (m≠2)=true->I0 P):=by
 cases p with
 |tup s=>
  refine⟨s,rfl,λH=>?_⟩;cases s with
  |nil=>trivial
  |cons x s=>cases x <;> first|trivial|(exact((of_decide_eq_true H) h.symm).elim)
 |_=>simp[fk]at h;omega
def HRs.getD{h:e_}{ps:x_ 0}(r:βm vs)(hi:i<ps.length):HR h (ps.getD i .non) (X7 zc):=by
 let g:ps[i]?=a0 (ps.getD i .non):=by simp[hi]
 let⟨v,V,H⟩:=r.at g;let e:X7 zc=v:=by simp[V]
 rw[e];show H
abbrev yV:x_ 0->jh (yp 0)
 |[]=>a0 []
 |.str x::r=>(yV r).map (x::·)
 |_=>a7
def C4:∀ss:yp 0,yV (δW 0)=a0 ss
 |[]=>rfl
 |x::r=>by
  change(yV<|r.map PV.str).map (x::·)=_
  rw[C4 r];rfl
def C5:∀{xs:x_ 0}{ss:yp 0},yV xs=a0 ss->xs=δW 0
 |[],ss,h=>by cases h;rfl
 |x::r,ss,h=>by
  cases x with
  |str z=>have h':(yV r).map (z::·)=a0 ss:=h;let⟨t,ht,rfl⟩:=xv.mp h';rw[C5 ht];rfl
  |_=>cases h
abbrev unZ:XQ 0->Str
 |[.inr x]=>x
 |_=>""
abbrev C6(ss:yp 0):yp 0:=(rG<|ss.map λx=>[(UL x:Key)]).map unZ
def EA(ss:yp 0):(ss.map λx=>[(UL x:Key)]).map unZ=ss:=by rw[yg];show(y1 λ_ _=>rfl).trans (List.map_id ss)
def DC(ss:yp 0):(C6 ss).Perm ss:=by have:=(fS<|ss.map λx=>[(UL x:Key)]).map unZ;rw[EA]at this;show this
abbrev kU:x_ 0->PH->W_ 0:=λxs h=>match xs with
 |[.ref n]=>match Xr n with
  |some ys=>match yV ys with
   |some ss=>if ss.length<64 then .ok (.ref h.length) (h++[.lst<|(C6 ss).map PV.str]) else .bad
   |none=>.bad
  |none=>.bad
 |_=>.bad
open H in
def Lo{k:Nat}:Yj (.builtin "sorted") kU:=λc=>bX.imp (by have:=rA (X:=X);rw[c.K]at this;show this) λvs H Q h=>by
 let⟨φ,h,ps,rh,rv,po⟩:=h;unfold kU at po;split at po
 ·rename_i n;split at po
  ·rename_i ys e;split at po
   ·rename_i ss es;let⟨hc,po⟩:=po.ite;let⟨v,rfl,rx⟩:=rv.one;let⟨a,rfl,ha⟩:=rx;let⟨a2,vs,qh,sa,ra⟩:=bU rh e;rw[ha]at qh;cases qh;let ey:=C5 es;subst ey;let ev:=Az.mp ra;subst ev;refine⟨a,ss,rfl,sa,hc,λl fh hl hp hs=>?_⟩;let e1:(fh.map λx=>[(UL x:Key)])=rG (ss.map λx=>[(UL x:Key)]):=by
     refine Dv (S:=[false]) (λy hy=>?_) (hp.map _) ?_
     ·let⟨z,_,rfl⟩:=wo.mp hy;rfl
     ·cases fh with
      |nil=>exact .nil
      |cons x r=>exact sN hs
    let e2:C6 ss=fh:=by unfold C6;rw[<-e1,EA]
    rw[e2]at po;show po.lnew rh (Az.mpr rfl) hl
   ·show po.elim
  ·show po.elim
 ·show po.elim
variable{ss:yp 0}
def C7(e:h[n]?=a0 (.lst<|ss.map PV.str))(hl:ss.length<64):∃zs:yp 0,zs.Perm ss/\kU [.ref n] h=.ok (.ref h.length) (h++[.lst<|zs.map PV.str]):=by
 refine⟨C6 ss,DC ss,?_⟩;let e1:Xr n=a0 (δW 0):=by simp[aH,e]
 simp only[kU,e1,C4];rw[if_pos hl]
@[reducible]noncomputable def KP:=XQ 0×PV
abbrev MT(x:KP):i_ KP->i_ KP
 |[]=>[x]
 |y::ys=>if cJ y.1 x.1=true then y::MT x ys else x::y::ys
abbrev I8:i_ KP->i_ KP
 |[]=>[]
 |x::xs=>MT x (I8 xs)
def yW{α β:Type}:∀{l:i_ (α×β)},(l.map (·.1)).Nodup->∀{a b:α×β},a∈l->b∈l->a.1=b.1->a=b
 |[],_,_,_,h,_,_=>nomatch h
 |x::l,n,a,b,z,B,e=>by
  rw[xg,z7]at n;rcases wu.mp z with rfl|A
  ·rcases wu.mp B with rfl|H
   ·rfl
   ·show(n.1<|wo.mpr ⟨b,H,e.symm⟩).elim
  ·rcases wu.mp B with rfl|H
   ·show(n.1<|wo.mpr ⟨a,A,e⟩).elim
   ·show yW n.2 A H e
open Classical in
abbrev sortBy(b:Bool)(ks ys:x_ 0):jh (x_ 0):=match yR ks with
 |some ai=>if ai.length<1000000/\ai.length=ys.length/\Ay ai=true/\ai.Nodup then a0 ((WN b<|I8<|ai.zip ys).map (·.2)) else a7
 |none=>a7
abbrev EB(f:Fn)(b:Bool)(ys:x_ 0):x_ 0->x_ 0->PH->W_ 0
 |[],ks,h=>match sortBy b ks ys with
  |some zs=>.ok (.ref h.length) (h++[.lst zs])
  |none=>.bad
 |x::xs,ks,h=>(f [x] h).bind λk h1=>EB f b ys xs (ks++[k]) h1
abbrev iH(x:PV)(h:PH):jh (x_ 0):=match x with
 |.ref n=>match Xr n with
  |some ys=>a0 ys
  |none=>iF h n
 |.fl ys=>a0 ys
 |_=>a7
abbrev Lp(x:PV)(h:PH):jh (x_ 0):=match x with
 |.ref n=>match h[n]? with
  |some (.vw 0 d)=>match h[d]? with
   |some (.dK [])=>a0 []
   |_=>a7
  |_=>a7
 |_=>a7
abbrev Ia(f:Fn)(b:Bool)(x:PV)(h:PH):W_ 0:=match(iH x h).or (Lp x h) with
 |some ys=>if ys.length<1000000 then EB f b ys ys [] h else .bad
 |none=>.bad
abbrev Ou(f:Fn)(b:Bool)(me:Me):Me:=λδ h=>(me δ h).bind λx h1=>Ia f b x h1
def RVs.pick{vs:i_ V}(r:Xh 0):∀{p:v_ 0},(∀i∈p,i<xs.length)->c9 (p.map λi=>xs.getD i .non) (p.map λi=>vs.getD i .non)
 |[],_=>trivial
 |i::p,h=>by
  let g:xs[i]?=a0 (xs.getD i .non):=by simp[h i wa]
  let⟨v,z,R⟩:=r.at g;let e:vs.getD i .non=v:=by simp[z]
  refine⟨?_,RVs.pick r λj J=>h j<|wb _ J⟩
  change b6 _ (vs.getD i .non)
  rw[e];show R
def C8{σ:St}(I:q_ s)(h:((s).heap.objs.size)<=a):X.s₀.heap.objs.size<=a/\a≠X.env.locals/\(∀x c,r_ 0=a0 c->c≠a)/\(∀p∈X.pn++b9,p.1≠a)/\a∉X.fs:=by
 refine⟨yd I.sz h,zr<|xa I.lt h,λx c e z=>?_,λp P z=>?_,I.nofs h⟩
 ·let⟨v,o,O,_⟩:=αA e;rw[z]at O;show absurd (xa (wt O) h)<|z6 _
 ·let O:=(αO P).1;rw[z]at O;show absurd (xa (wt O) h)<|z6 _
def eK{its:y_ 0}{e:Nat}:∀v,(seqObj "list" its e).data≠.cell v:=λv z=>nomatch z
def Inv.adopt{σ:St}{d:d8}{o:HO}(I:q_ s)(A:H a=a7)(y:H d=a7)(f:X.s₀.heap.objs.size<=a/\a≠X.env.locals/\(∀x c,r_ 0=a0 c->c≠a)/\(∀p∈X.pn++b9,p.1≠a)/\a∉X.fs)(fd:X.s₀.heap.objs.size<=d/\d≠X.env.locals/\(∀x c,r_ 0=a0 c->c≠d)/\(∀p∈X.pn++b9,p.1≠d)/\d∉X.fs)(k:∀x u,x≠a->x≠d->A4 0=a0 u->βJ 0=a0 u)(E:Z2 (YG o) h' a o):a8 (YG o) {s with heap:=h'}:=by
 let N:∀x u,H x=a0 u->x≠a:=λx u e z=>by rw[z,A]at e;cases e
 let D:∀x u,H x=a0 u->x≠d:=λx u e z=>by rw[z,y]at e;cases e
 refine I.call' (ch:=[a,d]) rfl ⟨λb u q n _ h=>?_,λb u q n _ h=>⟨u.slots,?_⟩,λb u q n h=>?_,λb u q h=>⟨u,?_⟩,λb S q=>?_,λb u S q=>?_,λb P q=>⟨#[],?_⟩⟩ (λb u e=>?_) I.bare λb B=>?_
 ·show γg (λz=>h<|by simp[z]) (λz=>h<|by simp[z]) q
 ·show γg (λz=>h<|by simp[z]) (λz=>h<|by simp[z]) q
 ·rw[aF<|λz=>h<|by simp[z]];show n
 ·show γg (λz=>h<|by simp[z]) (λz=>h<|by simp[z]) q
 ·rw[aF<|N _ _ q];show q
 ·rw[aF<|N _ _ q];show q
 ·rw[aF<|N _ _ q,q];simp
 ·by_cases B:b=a
  ·subst B;rw[aJ]at e;cases e;show E
  ·rw[aF B]at e;refine(αP u e).stay (λc v C q=>k c v ?_ ?_ q) (λc q=>by rw[aF<|N _ _ q];show q) λc S q=>by rw[aF<|N _ _ q];show q
   ·rcases C with z|z
    ·rw[z];show B
    ·show N _ _ z
   ·rcases C with z|z
    ·rw[z];show D _ _ e
    ·show D _ _ z
 ·rcases wu.mp B with rfl|B
  ·show⟨.inr f.1,f.2.1,f.2.2.1,f.2.2.2.1⟩
  ·rw[wx.mp B];show⟨.inr fd.1,fd.2.1,fd.2.2.1,fd.2.2.2.1⟩
variable{A':d_}{pn:yp 0}
def Ib{k:Nat}{st:h_}{q:d8}{f:Fn}{σ:St}{Q:VK}{v:V}{M:PV->PH->W_ 0}{R:(d6->d7->Prop)}(c:vn X)(D:Xe q fd pn)(G:ZE (Yt 1 f))(Z:dX j A')(I:q_ s)(g:β1 A' X.stack s H)(N:WV u)(T:m_ h)(L:b6 y v)(O:p_ ((f [y] h).bind M) Q)(Y:∀U m l o z p n,a8 o m->RelV l U->φ<+:z->L_ o->Xl z o n->RV C z o p l->XY z o (M p n) Q->R U m):wpAny (b8 X) A' (call (.ref q) [u]) R E s:=by
 rw[<-c.K]at G D;let S:=(⟨φ,h,[y],T,⟨L,trivial⟩,rfl,post.bind O⟩:Yt 1 f [v] H _ E0);refine wpAny_call (WD (G.run A' _ s H ⟨[u],[]⟩ [u] [v] _ E0 Z g (by
  have:=D.bd s [u] I.kIn (by simpa using(show([u]:Xu 0).length=pn.length from G.len _ _ _ E0 S))
  simpa using this) (.cons N .nil) S) λr m t=>?_)
 match r,t with
 |.error e,t=>exact t.elim
 |.ok (.ret U),t=>let⟨l,o,i,W,z,P,n,a,b,c,d,e⟩:=I.after t;show Y U m l o z P n i W a b c d e
 |.ok .next,t=>exact UK t
 |.ok .brk,t=>exact UK t
 |.ok .cont,t=>exact UK t
open PySem
@[simp]theorem Pr{m:Me}{f:Fn}:Ou f b m δ h=(Xn h).bind λx h1=>Ia f b x h1:=rfl
def vM(e:h[n]?=a0 (.lst xs)):iH (.ref n) h=a0 xs:=by simp[iH,aH,e]
open H in
def yX(e:YK n=a0 kvs):iY h n=a0 (kvs.map (·.2)):=by
 unfold aX at e;split at e
 ·rename_i q;cases e;simp[iY,q]
 ·rename_i q;cases e;simp[iY,q]
 ·cases e
open H in
def bV(e:YK n=a0 kvs):∃o,h[n]?=a0 o/\cF (.ref n) h=true/\∀H,H[n]?=a0 o->aX H n=a0 kvs:=by
 unfold aX at e;split at e
 ·rename_i q;cases e;show⟨_,q,by simp[cF,q],λH e=>by simp[aX,e]⟩
 ·rename_i q;cases e;show⟨_,q,by simp[cF,q],λH e=>by simp[aX,e]⟩
 ·cases e
def vN{h':PH}(x:tx h')(e:YK n=a0 kvs):aX h' n=a0 kvs:=by let⟨o,g,_,k⟩:=bV e;show k h'<|x _ _ g
def C9{d:Nat}(e:h[n]?=a0 (.vw 1 d))(z:YK d=a0 kvs):iH (.ref n) h=a0 (kvs.map (·.2)):=by
 let E:Xr n=a7:=by simp[aH,e]
 simp[iH,E,iF,e];show yX z
def Lq{d:Nat}(e:YK d=a0 kvs):yS (.ref d) [] h=.ok (.ref h.length) (h++[.vw 1 d]):=by simp[yS,yX e]
def Ic{z:PV}(e:YK n=a0 kvs)(k:(ZL 0).ky 6=true)(H:kvs.length<16777216):xN (.ref n) (.tup xs) z h=a0 (WY<|.dD<|cL kvs (.tup xs) z):=by let K:(ZL 0).isKt=true:=k;unfold xN;simp only[Ao,K,if_true,e];rw[if_pos<|by simp_all]
@[simp]theorem Ov:rC .non=true:=(rfl)
def Ext.setN{hX:PH}(x:tx hX)(H:h.length<=n):tx (hX.set n o):=λm O e=>by have:=(X2 0).1;rw[yt ⋯];show x m O e
def vIx_dK{kvs:i_ (Key×PV)}(e:h[n]?=a0 (.dK kvs)):vIx (.ref n) (.str x) h=ofO (XS<|.inr x) h:=by
 let E:Xr n=a7:=by simp[aH,e]
 simp[vIx,E,Ap,e,Ao]
def oJ(e:h[n]?=a0 (.lst xs))(E:h[m]?=a0 (.lst ys))(c:xs.length+ys.length<=16777216):aL (.ref n) (.ref m) h=.ok (.ref h.length) (h++[.lst<|xs++ys]):=by
 change Hx (.ref n) (.ref m) h=_
 simp[Hx,dG,e,E,c]
variable{C:MC}{k:Nat}{X:Cx}{h:PH}
abbrev qL:PV->x_ 0->PH->W_ 0:=λx ps h=>match x,ps with
 |.ref n,[y,z]=>match Ap h n y with
  |some o=>.ok (o.getD z) h
  |none=>.bad
 |_,_=>.bad
open H in
def Lr(c:vn X):MtR X "dict.get" (rM C qL):=λi s J H x N v U Q I f j h=>by
 let⟨G,h,p,d,r,m,R,P⟩:=h;unfold qL at P;split at P
 ·let⟨a,rfl,A⟩:=m;cases f
  let⟨L,V,rfl,Y,Z⟩:=R.two;let⟨M,K,rfl,y,u⟩:=vals2 j;split at P
  ·rename_i o e;let⟨O,g,S,l⟩:=pD r A Y e;refine NO c.hu I g y u λW b t n=>⟨O.getD V,H,t,n,?_⟩;cases o with
   |some q=>let⟨T,rfl,w⟩:=l q rfl;show X8 w
   |none=>
    cases O with
    |none=>exact X8 Z
    |some z=>cases S
  ·show P.elim
 ·show P.elim
def Ow:αx "dict" cF "dict.get" qL:=λc=>⟨Lr c,qJ c⟩
def Ca{kvs:i_ (Key×PV)}{z:PV}(e:h[n]?=a0 (.dK kvs)):qL (.ref n) [.str x,z] h=.ok ((XS<|.inr x).getD z) h:=by unfold qL Ap;simp[Ao,e]
open PySem.MeetsSeq PySem.SeqAt
abbrev kW(f:PV->PV->Bool):x_ 0->x_ 0->Bool
 |[],[]=>true
 |x::xs,y::ys=>f x y&&γD ys
 |_,_=>false
section
variable{k:Nat}{σ:St}
def kA{R:d6->d6->Prop}{f:PV->PV->Bool}(one:∀{p q x y u v},f p q=true->Xq x->b6 q y->C_ u->P_ v->R u v):∀{xs ys:x_ 0}{vs ws:i_ V}{us zs:Xu 0},γD ys=true->Xh 0->εf ws->Z3 0->aI ws zs->us.length=zs.length/\∀j(h1:j<us.length)(h2:j<zs.length),R us[j] zs[j]:=by
 intro xs ys vs ws us zs hf r1 r2 a b
 induction a generalizing xs ys ws zs with
 |nil=>cases b with
  |nil=>exact⟨rfl,λj h1=>absurd h1 (Nat.not_lt_zero _)⟩
  |cons q b=>cases xs with
   |cons=>exact r1.elim
   |nil=>cases ys with
    |nil=>exact r2.elim
    |cons=>cases hf
 |cons p a ih=>cases xs with
  |nil=>exact r1.elim
  |cons x xs=>cases ys with
   |nil=>cases hf
   |cons y ys=>cases b with
    |nil=>exact r2.elim
    |cons q b=>
     let hf:=Wu.mp (show(f x y&&γD ys)=true from hf)
     let⟨l,g⟩:=ih hf.2 r1.2 r2.2 b;show⟨congrArg Nat.succ l,fun|0,_,_=>one hf.1 r1.1 r2.1 p q|j+1,h1,h2=>g j (Nat.lt_of_succ_lt_succ h1)<|Nat.lt_of_succ_lt_succ h2⟩
def Cb{R:d6->d6->Prop}{f:PV->Bool}(one:∀{p x y u v},f p=true->Xq x->Xq y->C_ u->P_ v->R u v):∀{xs:x_ 0}{vs ws:i_ V}{us zs:Xu 0},xs.all f=true->Xh 0->c9 xs ws->Z3 0->aI ws zs->us.length=zs.length/\∀j(h1:j<us.length)(h2:j<zs.length),R us[j] zs[j]:=by
 intro xs vs ws us zs hf r1 r2 a b;refine kA (f:=λp q=>decide (p=q)&&f p) (λe=>?_) ?_ r1 r2 a b
 ·let e:=Wu.mp e;have:=of_decide_eq_true e.1;subst this;show one e.2
 ·clear r1 r2 a b
  induction xs with
  |nil=>rfl
  |cons x xs ih=>rw[Ws,yq]at hf;rw[kW,ih hf.2,hf.1,decide_eq_true rfl];rfl
def all_true:((zo n).all λ_=>true)=true:=by simp
def eM{x y:V}(P:p.pl 0=true)(z:Xq x)(Y:Xq y)(r:C_ u)(R:P_ v):Zv u v true:=by
 cases p with
 |non=>cases z;cases Y;cases r;cases R;show δY 0
 |int i=>
  cases z;cases Y;let⟨t,rfl⟩:=r;let⟨T,rfl⟩:=R;have:=EqAt.int_int (A:=A) (s:=s) i t i T
  rwa[beq_self_eq_true]at this
 |str i=>
  cases z;cases Y;let⟨t,rfl⟩:=r;let⟨T,rfl⟩:=R;have:=EqAt.str_str (A:=A) (s:=s) i t i T
  rwa[beq_self_eq_true]at this
 |_=>cases P
def EC(o:X.K=C.K)(I:q_ s)(n):∀{A:d_}{p:PV}{x y:V}{u v:d6},A.units+n<cLine->p.pl n=true->Xq x->Xq y->C_ u->P_ v->Zv u v true:=by
 induction n with
 |zero=>exact λ_ P w Y r z=>eM P w Y r z
 |succ n d=>
  intro A p x y u v M P w Y r z;cases p with
  |tup N=>
   let⟨a,L,rfl,Q,t⟩:=w;let⟨b,J,rfl,W,q⟩:=Y;cases r;cases z
   by_cases e:a=b
   ·rw[e];show δY 0
   ·let⟨S,U,c,_⟩:=I.tuple<|o▸Q;let⟨T,O,Z,_⟩:=I.tuple<|o▸W;let⟨l,g⟩:=Cb (R:=λu v=>Yo 0) (λP w Y r z=>d (by change A.units+1+n<cLine;omega) P w Y r z) (show N.all _=true from P) t q U O
    have:=RcAt.tuples (A:=A) c Z ⋯ (λj m f=>by simpa using g j (cA m) (cA f))
    refine EqAt.of_refs e ?_;rw[all_true]at this;simpa[l] using this
  |non=>exact eM rfl w Y r z
  |int i=>exact eM rfl w Y r z
  |str i=>exact eM rfl w Y r z
  |_=>cases P
end
abbrev lkL(f:PV->PV->Bool)(x:jh (x_ 0))(y:jh (x_ 0)):Bool:=match x with
 |some xs=>(match y with
  |some ys=>γD ys
  |none=>false)
 |none=>false
abbrev MU(x y:PV):Bool:=match x with
 |.int i=>(match y with
  |.int j=>decide (i=j)
  |_=>false)
 |.str i=>(match y with
  |.str j=>decide (i=j)
  |_=>false)
 |.non=>(match y with
  |.non=>true
  |_=>false)
 |_=>false
abbrev Rb(h:PH)(f:PV->PV->Bool)(x y:PV):Bool:=match x with
 |.tup xs=>(match y with
  |.tup ys=>γD ys
  |_=>false)
 |.ref a=>(match y with
  |.ref b=>lkL f (Xr a) (Xr b)
  |_=>false)
 |x=>MU x y
abbrev jI(h:PH)(n:Nat):PV->PV->Bool:=Nat.rec MU (λ_ f=>Rb h f) n
abbrev ED:PV->PV->Bool
 |.tup _,.tup _=>true
 |.ref _,.ref _=>true
 |_,_=>false
abbrev Ox(x y:PV)(h:PH):W_ 0:=if ED x y=true/\δZ 190 x y=true then .ok (.bl false) h else .bad
section
variable{k:Nat}{σ:St}
open H in
def Ls(hK:X.K=C.K)(I:q_ s)(rh:m_ h)(n:Nat):∀{A:d_}{p q:PV}{x y:V}{u v:d6},A.units+n<cLine->δZ n p q=true->Xq x->b6 q y->C_ u->P_ v->Zv u v true:=by
 induction n with
 |zero=>intro A p q x y u v hu hp rx ry r1 r2;cases p <;> cases q <;> first|exact absurd hp xh|(have e:=of_decide_eq_true hp;subst e;show eM rfl rx ry r1 r2)|exact eM rfl rx ry r1 r2
 |succ n ih=>
  intro A p q x y u v hu hp rx ry r1 r2;let one:∀{p q x y u v},δZ n p q=true->Xq x->b6 q y->C_ u->P_ v->Yo 0:=λhp rx ry r1 r2=>ih (by change A.units+1+n<cLine;rw[WI,Nat.add_comm 1];show hu) hp rx ry r1 r2;let eh:A.units<cLine:=UI (Va _ _) hu;cases p <;> cases q <;> first|exact absurd hp xh|(have e:=of_decide_eq_true hp;subst e;show eM rfl rx ry r1 r2)|exact eM rfl rx ry r1 r2|skip
  case tup.tup xs ys=>
   let⟨a,vs,rfl,q1,i4⟩:=rx;let⟨b,ws,rfl,q2,ic⟩:=ry;cases r1;cases r2
   by_cases e:a=b
   ·rw[e];show δY 0
   ·let⟨its,v1,p1,_⟩:=I.tuple<|hK▸q1;let⟨ay,v2,p2,_⟩:=I.tuple<|hK▸q2;let⟨l,g⟩:=kA (R:=λu v=>Yo 0) one hp i4 ic v1 v2;have:=RcAt.tuples (A:=A) (e:=λ_=>true) p1 p2 eh (λj h1 h2=>by simpa using g j (cA h1) (cA h2))
    refine EqAt.of_refs e ?_;rw[all_true]at this;simpa[l] using this
  case ref.ref a b=>
   let hp:lkL (δZ n) (Xr a) (Xr b)=true:=hp;cases e1:Xr a with
   |none=>rw[e1]at hp;cases hp
   |some xs=>
    cases e2:Xr b with
    |none=>rw[e1,e2]at hp;cases hp
    |some ys=>
     rw[e1,e2]at hp;let⟨a,vs,rfl,q1,i4⟩:=dO rh rx (show fQ (.ref a) h=a0 xs from e1)
     let⟨b,ws,rfl,q2,ic⟩:=dO rh ry (show fQ (.ref b) h=a0 ys from e2)
     cases r1;cases r2
     by_cases e:a=b
     ·rw[e];show δY 0
     ·let⟨its,v1,p1,_⟩:=I.list<|hK▸q1;let⟨ay,v2,p2,_⟩:=I.list<|hK▸q2;let⟨l,g⟩:=kA (R:=λu v=>Yo 0) one hp i4 ic v1 v2;have:=RcAt.lists (A:=A) (e:=λ_=>true) p1.isList p2.isList (by simp[l]) eh (λj h1 h2=>by simpa using g j (cA h1) (cA h2))
      refine EqAt.of_refs e ?_;rw[all_true]at this;show this
open H in
def Lu(c:vn X)(I:q_ s)(rh:m_ h){q:PV}{x y:V}(hb:ED p q=true)(hp:δZ 190 p q=true)(rx:Xq x)(ry:b6 q y)(r1:C_ u)(r2:P_ v):RcAt X.A s u v true/\RcNeAt X.A s u v false:=by
 let hu:X.A.units+190<cLine:=UI (Nat.add_le_add (Va _<|16*k)<|by decide) c.room.un;let eh:X.A.units<cLine:=UI (Va _ _) hu;let one:∀{p q x y u v},δZ 189 p q=true->Xq x->b6 q y->C_ u->P_ v->Y5 0:=Ls c.K I rh 189 (by change X.A.units+1+189<cLine;show hu);cases p <;> cases q <;> first|exact absurd hb xh|skip
 case tup.tup xs ys=>
  let⟨a,vs,rfl,q1,i4⟩:=rx;let⟨b,ws,rfl,q2,ic⟩:=ry;cases r1;cases r2;let⟨its,v1,p1,_⟩:=I.tuple<|c.K▸q1;let⟨ay,v2,p2,_⟩:=I.tuple<|c.K▸q2;let⟨l,g⟩:=kA (R:=λu v=>Y5 0) one hp i4 ic v1 v2;let e1:=RcAt.tuples (A:=X.A) (e:=λ_=>true) p1 p2 eh (λj h1 h2=>by simpa using g j (cA h1) (cA h2))
  let e2:=RcNeAt.tuples (A:=X.A) (e:=λ_=>true) p1 p2 eh (λj h1 h2=>by simpa using g j (cA h1) (cA h2))
  rw[all_true]at e1 e2;show⟨by simpa[l] using e1,by simpa[l] using e2⟩
 case ref.ref a b=>
  let hp:lkL (δZ 189) (Xr a) (Xr b)=true:=hp;cases e1:Xr a with
  |none=>rw[e1]at hp;cases hp
  |some xs=>
   cases e2:Xr b with
   |none=>rw[e1,e2]at hp;cases hp
   |some ys=>
    rw[e1,e2]at hp;let⟨a,vs,rfl,q1,i4⟩:=dO rh rx (show fQ (.ref a) h=a0 xs from e1)
    let⟨b,ws,rfl,q2,ic⟩:=dO rh ry (show fQ (.ref b) h=a0 ys from e2)
    cases r1;cases r2;let⟨its,v1,p1,_⟩:=I.list<|c.K▸q1;let⟨ay,v2,p2,_⟩:=I.list<|c.K▸q2;let⟨l,g⟩:=kA (R:=λu v=>Y5 0) one hp i4 ic v1 v2;let e1:=RcAt.lists (A:=X.A) (e:=λ_=>true) p1.isList p2.isList (by simp[l]) eh (λj h1 h2=>by simpa using g j (cA h1) (cA h2))
    let e2:=RcNeAt.lists (A:=X.A) (e:=λ_=>true) p1.isList p2.isList (by simp[l]) eh (λj h1 h2=>by simpa using g j (cA h1) (cA h2))
    rw[all_true]at e1 e2;show⟨e1,e2⟩
def Rc:A2 (zt .NotEq) Ox:=λc i s m H x y v u Q I n Y h=>by let⟨l,h,p,q,r,R,t,o⟩:=h;let⟨z,o⟩:=o.ite;show(Lu c I r z.1 z.2 R t n Y).2 _ X.w X.xe _ ⟨.bl false,H,I,rfl,γy rfl⟩
def Lv{x:PV}(b:ED x y=true)(e:δZ 190 x y=true):Ox x y h=.ok (.bl false) h:=if_pos ⟨b,e⟩
end
abbrev mH(f:Str)(p:PV):i_ (Str×PV)->i_ (Str×PV)
 |[]=>[(f,p)]
 |(g,x)::r=>if g=f then(g,p)::r else(g,x)::mH f p r
abbrev fT(x:PV)(h:PH):jh (Nat×Str×i_ (Str×PV)):=match x with
 |.ref n=>match h[n]? with
  |some (.ins c fs)=>a0 (n,c,fs)
  |_=>a7
 |_=>a7
abbrev aU(f:Str):PV->PH->W_ 0:=λx h=>match fT x h with
 |some (_,_,fs)=>match Yf 0 with
  |some p=>.ok p h
  |none=>.bad
 |none=>.bad
abbrev mW(f:Str)(x y:PV)(h:PH):jh PH:=match fT x h with
 |some (n,c,fs)=>if fs.length<1000 then a0 (WY<|.ins c<|mH f y fs) else a7
 |none=>a7
def Ie{fs:i_ (Str×PV)}{ks:i_ (Str×V)}(r:WR fs ks)(f){v:V}(R:Xq v):WR (mH f p fs) (Z5 ks):=by
 induction r with
 |nil=>exact .cons ⟨rfl,R⟩ .nil
 | @cons a b s S h t i=>
  let⟨A,y⟩:=a;let⟨B,x⟩:=b;let e:A=B:=h.1;subst e;unfold mH jU;by_cases z:A=f
  ·rw[YS 0,YS 0];show .cons ⟨rfl,R⟩ t
  ·rw[Y7 0,Y7 0];show .cons h i
def kX{fs:i_ (Str×PV)}{ks:i_ (Str×V)}(r:WR fs ks)(f):(Yf 0=a7/\ks.lookup f=a7)\/∃p v,Yf 0=a0 p/\ks.lookup f=a0 v/\Xq v:=by
 induction r with
 |nil=>exact .inl ⟨rfl,rfl⟩
 | @cons a b s S h t i=>
  let⟨A,y⟩:=a;let⟨x,B⟩:=b;let e:=h.1;subst e;simp only[ym];cases z:(f == A) with
  |true=>exact .inr ⟨y,B,rfl,rfl,h.2⟩
  |false=>exact i
open H in
def mX{x:PV}{v:V}{c:Str}{fs:i_ (Str×PV)}(r:m_ h)(R:b6 x v)(e:fT x h=a0 (n,c,fs)):
  ∃a A d s,x=.ref n/\v=.ref a/\φ[n]?=a0 a/\h[n]?=a0 (.ins c fs)/\C.cl c=a0 A/\H a=a0 (.ins A d s)/\WR fs s:=by
 unfold fT at e;cases x with
 |ref m=>
  let⟨a,rfl,z⟩:=R;dsimp only at e;split at e
  ·rename_i t f q;cases e
   let⟨A,d,s,y,w,u⟩:=r.at' _ a _ z q;show⟨a,A,d,s,rfl,rfl,z,q,y,w,u⟩
  ·cases e
 |_=>cases e
abbrev Ga(C:MC)(f:Str):Prop:=∀c a,C.cl c=a0 a->Cls C.K a/\jG C.K a f
variable{h3:PH}{mv:Me}{value:g_}{fq:Pos}
section
variable{o:g_}{f:Str}{m:Me}
def Re{k:Nat}(F:Ga C f)(E:c_ e m)(hb:V7 e f X.env (xl 0)=xl 0:=by rfl):c_ (.Attribute e f pos) (mUn (aU f) m):=λc=>
 (NA (E c) hb).imp λD H Q h=>by
  let⟨V,W,h,Z,b,p⟩:=h;refine⟨V,W,h,Z,b,(Yh 0).imp ?_⟩;rintro v P ⟨T,x,w,I,G,r,R,q⟩;unfold aU at q;cases i:fT x w with
  |none=>rw[i]at q;show q.elim
  |some z=>
   let⟨n,N,O⟩:=z;rw[i]at q;dsimp only at q;let⟨a,A,d,S,rfl,rfl,M,J,s,t,Y⟩:=mX r R i;let⟨L,g⟩:=F N A s;rcases kX Y f with⟨l,_⟩|⟨y,u,l,j,U⟩
   ·rw[l]at q;show q.elim
   ·rw[l]at q;show⟨a,A,d,S,u,rfl,t,by rw[c.K];show L,by rw[c.K];show g,j,q.val r U⟩
abbrev cN(f:Str)(mo mv:Me):Ms:=λδ h=>(mv δ h).fl λy h1=>(mo δ h1).fl λx h2=>match δ3 h2 with
 |some h3=>.nx δ h3
 |none=>.bad
open H in
def EE{k:Nat}{x:PV}{v u:V}{D:Ends}{σ:St}(c:vn X)(j:Ga C f)(r:m_ h)(E:J_ 0)(Z:b6 x v)(Y:b6 y u)(es:δ3 h=a0 h3)(q:Ys (.nx δ h3) D):
  ∃a A d s,v=.ref a/\H a=a0 (.ins A d s)/\Cls X.K A/\jG X.K A f/\s.length<1000/\αQ (YG<|.ins A d<|jU f u s)/\∃n N F,fT x h=a0 (n,N,F)/\C.cl N=a0 A:=by
 unfold mW at es;cases i:fT x h with
 |none=>rw[i]at es;cases es
 |some z=>
  let⟨n,N,F⟩:=z;rw[i]at es;dsimp only at es;split at es
  ·rename_i L;cases es
   let⟨a,A,d,s,rfl,rfl,g,W,t,w,R⟩:=mX r Z i;let⟨l,b⟩:=j N A t;let p:L_ (YG<|.ins A d<|jU f u s):=Kp.upd (by rw[w];trivial);refine⟨a,A,d,s,rfl,w,by rw[c.K];show l,by rw[c.K];show b,by rw[<-ze R];show L,?_⟩;refine⟨q φ σ _ wm p (r.write g (by rw[w];trivial) ⟨A,d,_,t,aJ,?_⟩)<|E.mono wm p,n,N,F,rfl,t⟩;show(Ie R f Y).mono wm p
  ·cases es
def Rf{k:Nat}(F:Ga C f)(Q:c_ value mv)(O:c_ o mo)(S:WG value (a0<|.Attribute o f pos') pos.line X.env=Z4 0:=by rfl):Xc (.Assign [.Attribute o f pos'] value pos) (cN f mo mv):=λc=>
 (NB (O c) (Q c) S).imp λD m H h=>by
  let⟨L,j,h,M,r,p⟩:=h;refine⟨L,j,h,M,r,(γB 0).imp ?_⟩;rintro u I ⟨t,y,W,P,T,R,V,N⟩;refine⟨t,j,W,R,γe T,(post.fl N).imp ?_⟩;rintro v E ⟨J,x,U,n,l,z,w,q⟩;cases s:δ3 U with
  |none=>rw[s]at q;show q.elim
  |some B=>rw[s]at q;let⟨a,A,d,K,g,G,i,b,Z,Y,_⟩:=EE c F z ((γe T).mono n l) w (V.mono n l) s q;show⟨a,A,d,K,g,G,i,b,Z,Y⟩
abbrev Oy(f:Str)(δ:Ev)(cn:Str)(x z y:PV)(h:PH):Fl:=match z,y with
 |.int i,.int j=>match fT x h with
  |some (_,c,_)=>if c=cn then(match mW f x (.int (i+j)) h with
   |some h3=>.nx δ h3
   |none=>.bad) else .bad
  |none=>.bad
 |_,_=>.bad
abbrev EF(f:Str)(mo mv:Me):Ms:=λδ h=>(mo δ h).fl λx h1=>match fT x h1 with
 |some (_,cn,fs)=>match Yf 0 with
  |some z=>(mv δ h1).fl λy h2=>Oy f δ cn x z y h2
  |none=>.bad
 |none=>.bad
open H in
def Ii{k:Nat}(F:Ga C f)(ho:c_ o mo)(hv:c_ value mv):Xc (.AugAssign (.Attribute o f fq) .Add value pos) (EF f mo mv):=λc=>
 (Fu (ho c) (hv c) NC).imp λD σ H h=>by
  let⟨φ,m,h,rh,Z,p⟩:=h;refine⟨φ,m,h,rh,Z,(γB 0).imp ?_⟩;rintro v H1 ⟨W,x,P,M,G,r,R,Q⟩;cases I:fT x P with
  |none=>rw[I]at Q;show Q.elim
  |some z=>
   let⟨n,cn,fs⟩:=z;rw[I]at Q;dsimp only at Q;let⟨a,A,dx,ks,rfl,rfl,ha,hh,N,hH,rk⟩:=mX r R I;let⟨cl,na⟩:=F cn A N;rcases kX rk f with⟨g,_⟩|⟨zz,u,g,l2,ru⟩
   ·rw[g]at Q;show Q.elim
   ·rw[g]at Q;refine⟨a,A,dx,ks,u,rfl,hH,by rw[c.K];show cl,by rw[c.K];show na,l2,W,m,P,r,Z.mono M G,(post.fl Q).imp ?_⟩;rintro w e ⟨U,y,O,J,B,Y,V,q⟩;unfold Oy at q;cases zz with
    |int i=>
     cases y with
     |int j=>
      dsimp only at q;cases ru
      cases V
      cases E:fT _ O with
      |none=>rw[E]at q;show q.elim
      |some z2=>
       rw[E]at q;dsimp only at q;split at q
       ·rename_i ec;subst ec;cases s:mW f _ (.int _) O with
        |none=>rw[s]at q;show q.elim
        |some h3=>
         rw[s]at q;let⟨a2,b,d,S,e1,l,_,_,L,nx,n3,cn3,fs3,T,t⟩:=EE c F Y ((Z.mono M G).mono J B) (R.mono J B) (show RV C U e (.int _) (.int _) from rfl) s q
         cases e1
         rw[E]at T;cases T
         rw[N]at t;cases t
         show⟨i,j,rfl,rfl,d,S,l,L,nx⟩
       ·show q.elim
     |_=>exact q.elim
    |_=>cases y <;> exact q.elim
end
abbrev AC(C:MC)(X:Cx)(k:Nat)(m:Str)(n:Nat)(tb:Str->jh Fn):Prop:=∀c a f,C.cl c=a0 a->tb c=a0 f->
 ∃g fd ps j,Cls C.K a/\CV C.K a m g/\j<=k/\j_ g fd ps (Yt (n+1) f)/\Y_ []
def Oz{k:Nat}{m:Str}:Zl (λ_=>a7):=λ_ _ _ _ h=>nomatch h
variable{tb:Str->jh Fn}
def Lw{k:Nat}{m c:Str}{g:d8}{f:Fn}(u:C.cl c=a0 a)(v:Cls C.K a)(M:CV C.K a m g)(J:j<=k)(G:j_ g fd ps (Yt (n+1) f))(B:Y_ [])(r:Zl tb):
  Zl (λz=>if z=c then a0 f else tb z):=λy A F H x=>by
 let h:(if y=c then a0 f else tb y)=a0 F:=x;by_cases e:y=c
 ·subst e;rw[u]at H;cases H
  rw[if_pos rfl]at h;cases h
  show⟨g,fd,ps,j,v,M,J,G,B⟩
 ·rw[W5 0]at h;show r y A F H h
abbrev bM(m:Str)(n:Nat)(tb:Str->jh Fn)(mo:Me)(ms:Ma):Me:=λδ h=>(mo δ h).bind λx h1=>match fT x h1 with
 |some (_,c,fs)=>match tb c,fs.lookup m with
  |some f,a7=>(Xi h1).bind λps h2=>if ps.length=n then f (x::ps) h2 else .bad
  |_,_=>.bad
 |none=>.bad
def OA{k:Nat}{o:g_}{m:Str}{pl:Sem Bool}(hM:Zl tb)(ho:c_ o mo)(ha:Xo (e::es) ms)(S:xq (e::es) X.env=(false,xl 0)::Mm 0:=by rfl)(l:(As (Mm 0)).any (·.1)=false:=by rfl)(ht:eval (.Call (.Attribute o m apos) (e::es) [] pos) X.env=(do
   let ov <-Yd 0
   standAt apos.atName
   let (f,first) <-holding [ov] (getMethod ov m pl)
   callWith pos f first (As (xq (e::es) X.env)) (backToKw pos (keywordEach [] X.env))):=by rfl):
  c_ (.Call (.Attribute o m apos) (e::es) [] pos) (bM m n tb mo ms):=λc P s x H Q I h=>by
 let⟨φ,z,h,rh,E,p⟩:=h
 refine PySem.W.methodCall_KW (thn (ho c P s x H _ I ⟨φ,z,h,rh,E,Yh 0⟩) λu s1 Z=>?_) ht
 let⟨v,H1,q,ru,u,x,b,p1,t1,R,v,Y⟩:=Z
 cases i:fT x b with
 |none=>rw[i]at Y;exact Y.elim
 |some z=>
  let⟨n',N,fs⟩:=z
  rw[i]at Y
  dsimp only at Y
  let⟨a,A,dx,ks,rfl,rfl,r,Z,hc,hH,rk⟩:=mX R v i
  cases t:tb N with
  |none=>rw[t]at Y;exact Y.elim
  |some f=>
   rw[t]at Y
   rcases kX rk m with⟨L,l2⟩|⟨y,u',L,_⟩
   ·rw[L]at Y
    let⟨g,fd,ps,j,cl,me,hj,F,bd⟩:=hM N A f hc t
    have M:CV X.K A m g:=by rw[c.K];exact me
    have F':td CX0 j g fd ps (Yt (n+1) f):=by rw[c.K];exact F
    cases ru
    refine uG q hH (by rw[c.K];exact cl) M l2 <|PySem.W.callWith_K (first:=[.ref a]) I.ok.mod.kin M.kp (thn (ha c pos P s1 x H1 _ q ⟨u,z,b,R,E.mono p1 t1,postA.bind Y⟩) λus s2 h2=>?_) S l
    let⟨vs,H2,d,r2,Q,zs,h3,p2,t2,y,s,V⟩:=h2
    let⟨hl,V⟩:=V.ite
    refine⟨d.kIn,?_⟩
    exact zU (vs:=.ref a::vs) F' (c.room.mono hj) (by rw[c.K];exact bd) .nil xZ d (.cons rfl r2) ⟨Q,h3,.ref n'::zs,y,⟨⟨a,rfl,dW p2 r⟩,(by show Zd Q H2 zs<|vs++[];rw[Ua];exact s)⟩,by simp[hl],V⟩
   ·rw[L]at Y;exact Y.elim
def Lx{k:Nat}{o:g_}{m:Str}{pl:Sem Bool}(S:AC C X k m 0 tb)(O:c_ o mo)(G:eval (.Call (.Attribute o m apos) [] [] pos) X.env=(do
   let ov <-Yd 0
   standAt apos.atName
   let (f,first) <-holding [ov] (getMethod ov m pl)
   callWith pos f first (As (xq [] X.env)) (backToKw pos (keywordEach [] X.env))):=by rfl):
  c_ (.Call (.Attribute o m apos) [] [] pos) (bM m 0 tb mo aC):=λc i s σ H Q I h=>by
 let⟨φ,δ,h,rh,re,p⟩:=h
 refine PySem.W.methodCall_KW (thn (O c i s σ H _ I ⟨φ,δ,h,rh,re,Yh 0⟩) λu s1 Z=>?_) G
 let⟨v,H1,t,ru,d,x,b,p1,t1,r,R,q⟩:=Z
 cases E:fT x b with
 |none=>rw[E]at q;exact q.elim
 |some z=>
  let⟨n',N,fs⟩:=z
  rw[E]at q
  dsimp only at q
  let⟨a,A,dx,ks,rfl,rfl,l,Z,P,U,rk⟩:=mX r R E
  cases T:tb N with
  |none=>rw[T]at q;exact q.elim
  |some f=>
   rw[T]at q
   rcases kX rk m with⟨L,n⟩|⟨y,u',L,_⟩
   ·rw[L]at q
    let⟨g,D,ps,j,V,e,J,F,B⟩:=S N A f P T
    have M:CV X.K A m g:=by rw[c.K];exact e
    have Y:td CX0 j g D ps (Yt (0+1) f):=by rw[c.K];exact F
    cases ru
    refine uG t U (by rw[c.K];exact V) M n ?_
    exact PySem.W.callWith_K0 t.kIn M.kp (zU (us:=[.ref a]) (vs:=[.ref a]) Y (βK 0) (by rw[c.K];exact B) .nil xZ t (.cons rfl .nil) ⟨d,b,[.ref n'],r,⟨⟨a,rfl,l⟩,trivial⟩,rfl,q⟩)
   ·rw[L]at q;exact q.elim
abbrev gL(cn:Str)(n:Nat)(f:Fn)(ms:Ma):Me:=λδ h=>(Xi h).bind λps h1=>if ps.length=n then(f (.ref h1.length::ps) (h1++[.ins cn []])).bind λv h2=>(match v with
 |.non=>.ok (.ref h1.length) h2
 |_=>.bad) else .bad
variable{ca:d8}{cn:Str}{fn:Fn}{zs:x_ 0}
def EG{vs:i_ V}{Q:VK}(c:C.cl cn=a0 ca)(m:m_ h)(b:c9 zs vs)(q:p_ (if zs.length=n then(fn (.ref h.length::zs)<|h++[.ins cn []]).bind λv t=>(match v with|.non=>Rs.ok (.ref h.length) t|_=>.bad) else .bad) Q):
  ∀y d,H y=a7->H d=a7->d≠y->Yt (n+1) fn (.ref y::(vs++[])) (upd (t_ d<|.own y) y<|.ins ca d []) (λv u=>v=.non/\Q (.ref y) u) E0:=λy d i D N=>by
 let⟨l,q⟩:=q.ite;let Y:(t_ d<|.own y) y=a7:=by rw[aF<|zj N];show i
 let K:L_ (t_ d<|.own y):=Kp.new D;let s:Kp (t_ d _) (upd (t_ d _) y<|.ins ca d []):=Kp.new Y;let R:Xl _ (upd (t_ d _) y _) (h++[.ins cn []]):=(m.aside D).new Y ⟨ca,d,[],c,aJ,.nil⟩;let r:RV C (φ++[y]) (upd (t_ d<|.own y) y<|.ins ca d []) (.ref h.length) (.ref y):=⟨y,rfl,by rw[<-m.len];simp⟩;refine⟨φ++[y],h++[.ins cn []],.ref h.length::zs,R,⟨r,by rw[Ua];show b.mono (zp _ _)<|K.trans s⟩,by simp[l],?_⟩;refine(post.bind<|post.weak (zp _ [y]) (K.trans s) q).imp ?_;rintro v u ⟨a,g,t,P,T,z,w,o⟩;cases g with
 |non=>cases w;show⟨rfl,o.val z<|r.mono P T⟩
 |_=>exact o.elim
def OB{k:Nat}{f:d8}{p:Pos}(z:C.cl cn=a0 ca)(M:Mk C.K ca f)(F:j_ f fd ps (Yt (n+1) fn))(m:X.mg x=a0 (.ref ca))(b:Y_ [])(a:Xo (e::es) ms)(J:j+1<=k:=by decide)(g:Yu x:=by rfl)(d:(x == ("__debug__" : Str))=false:=by decide)(E:xq (e::es) X.env=(false,xl 0)::Mm 0:=by rfl)(l:(As<|xq es X.env).any (·.1)=false:=by rfl):
  c_ (.Call (.Name x p) (e::es) [] pos) (gL cn n fn ms):=λc=>by
 refine(Km (by rw[c.K];show M) (by rw[c.K];show F) (βK 0) g m (by rw[c.K];show b) .nil xZ (a c) d E l).imp λY H Q h=>?_;let⟨t,u,h,y,R,o⟩:=h;refine⟨t,u,h,y,R,(postA.bind o).imp ?_⟩;rintro V i ⟨s,S,Z,P,T,r,v,q⟩;show EG z r v q
def Ly{k:Nat}{f:d8}{p:Pos}(z:C.cl cn=a0 ca)(M:Mk C.K ca f)(F:j_ f fd ps (Yt (0+1) fn))(m:X.mg x=a0 (.ref ca))(b:Y_ [])(J:j+1<=k:=by decide)(g:Yu x:=by rfl)(d:(x == ("__debug__" : Str))=false:=by decide):c_ (.Call (.Name x p) [] [] pos) (gL cn 0 fn aC):=λc=>by refine(GW (by rw[c.K];show M) (by rw[c.K];show F) (βK 0) g m (by rw[c.K];show b) .nil xZ d).imp λv H Q h=>?_;let⟨u,y,h,r,R,o⟩:=h;show EG (zs:=[]) z r trivial o
abbrev iZ(x y v:PV)(h:PH):jh PH:=match x,y with
 |.ref n,.int i=>match dG h n with
  |some xs=>match δz i with
   |some j=>a0 (WY<|.lst<|xs.set j v)
   |none=>a7
  |none=>xN x y v h
 |_,_=>xN x y v h
abbrev kC(mv mo mi:Me):Ms:=λδ h=>(mv δ h).fl λv h1=>(mo δ h1).fl λx h2=>(mi δ h2).fl λy h3=>match iZ x y v h3 with
 |some h4=>.nx δ h4
 |none=>.bad
open H in
def DD{k:Nat}{h':PH}{pv:PV}{x y v:V}(c:vn X)(p:m_ h)(m:b6 px x)(Y:b6 py y)(o:b6 pv v)(e:iZ px py pv h=a0 h'){σ:St}{Q:(Unit->d7->Prop)}(I:q_ s)(u:C_ xu)(R:P_ yu)(r:WV vu)(q:∀S z,a8 z S->L_ z->Xl φ z h'->Q () S):wpAny (b8 X) X.A (setItem xu yu vu) Q X.xe s:=by
 unfold iZ at e;split at e
 ·rename_i n i;split at e
  ·rename_i d L;split at e
   ·rename_i j E;cases e
    let⟨a,rfl,l⟩:=m;cases Y
    let⟨g,t,W⟩:=p.at' n a _ l<|jY L;refine thn (set_list b9 s σ H _ _ v xu yu vu (λz=>z=YG (.lst _)) I u R r ⟨a,g,i,j,rfl,rfl,t,by rw[<-W.length];show E,rfl⟩) ?_;rintro _ S ⟨z,f,rfl⟩;refine q S _ f (Kp.lst t) (p.write l (by rw[t];trivial) ⟨_,aJ,(RVs.set o j W).mono wm<|Kp.lst t⟩)
   ·cases e
  ·show yQ c p m Y o e I u R r q
 ·show yQ c p m Y o e I u R r q
def OC{k:Nat}{o i:g_}{mi:Me}(hv:c_ value mv)(A:c_ o mo)(hi:c_ i mi)(hs:WG value (a0<|.Subscript o i pos') pos.line X.env=Z4 0:=by rfl):
  Xc (.Assign [.Subscript o i pos'] value pos) (kC mv mo mi):=λc n s z H D I ⟨φ,a,h,rh,r,p⟩=>by
 refine wpAny_Assign_Subscript (thn (hv c n s z H _ I ⟨φ,a,h,rh,r,γB 0⟩) ?_) hs;rintro vu s1 ⟨v,O,L,U,Z,pv,F,P,T,t,V,q1⟩;refine thn (A c n s1 z O _ L ⟨Z,a,F,t,γe T,post.fl q1⟩) ?_;rintro xu s2 ⟨x,N,J,f,W,px,E,w,d,m,j,q2⟩;refine thn (hi c n s2 z N _ J ⟨W,a,E,m,(γe T).mono w d,post.fl q2⟩) ?_;rintro yu s3 ⟨y,H3,G,Y,S,py,B,u,b,l,g,q⟩;cases e:iZ px py pv B with
 |none=>rw[e]at q;show q.elim
 |some h4=>rw[e]at q;show DD c l (j.mono u b) g ((V.mono w d).mono u b) e G f Y U λs' Q M K R=>⟨z,Q,M,q S z Q wm K R<|(((γe T).mono w d).mono u b).mono wm K⟩
def qM{c:Str}{fs:i_ (Str×PV)}(e:h[n]?=a0 (.ins c fs)):fT (.ref n) h=a0 (n,c,fs):=by simp[fT,e]
def bI{c f:Str}{fs:i_ (Str×PV)}(e:h[n]?=a0 (.ins c fs))(l:Yf 0=a0 p):aU f (.ref n) h=.ok p h:=by simp[aU,qM e,l]
def cW{c f:Str}{fs:i_ (Str×PV)}(e:h[n]?=a0 (.ins c fs))(l:fs.length<1000):mW f (.ref n) p h=a0 (WY<|.ins c<|mH f p fs):=by simp[mW,qM e,l]
@[simp]theorem DE{E:FE}{f:Str}:(cN f mo mv δ h).W E=(mv δ h).W λy h1=>(mo δ h1).W λx h2=>∃h3,δ3 h2=a0 h3/\YE h3:=by
 unfold cN;rw[G5];congr 1;funext y h1;rw[G5];congr 1;funext x h2;cases e:δ3 h2 <;> simp
@[simp]theorem mY{f:Fn}:gL cn n f ms δ h=(Xi h).bind λps h1=>if ps.length=n then(f (.ref h1.length::ps)<|h1++[.ins cn []]).bind λv h2=>(match v with|.non=>.ok (.ref h1.length) h2|_=>.bad) else .bad:=rfl
@[simp]theorem Ti{E:FE}{mi:Me}:(kC mv mo mi δ h).W E=(mv δ h).W λv h1=>(mo δ h1).W λx h2=>(mi δ h2).W λy h3=>∃h4,iZ x y v h3=a0 h4/\YE h4:=by
 unfold kC;rw[G5];congr 1;funext v h1;rw[G5];congr 1;funext x h2;rw[G5];congr 1;funext y h3;cases e:iZ x y v h3 <;> simp
abbrev calm(f:Fn):Fn:=λxs h=>match f xs h with
 |.exc _ _=>.bad
 |r=>r
def boot_reversed:Vv "reversed" = a0 (.type "reversed"):=by rfl
abbrev vO:PV->PH->W_ 0:=λx h=>match fQ x h with
 |some xs=>.ok (.ref h.length) (h++[.lst xs.reverse])
 |none=>.bad
def Gb(h:ItemsOf (Hu items) acc items.size):acc.toList=items.toList.reverse:=by
 apply UX;intro i;by_cases H:i<acc.size
 ·let e:acc[i]?=a0 acc[i]:=by simp
  rw[UB,e,List.getElem?_reverse (by simpa using(by rw[<-h.1];show H)),UB]
  show(h.2 i _ e).symm
 ·let I:¬ i<items.size:=by rw[<-h.1];show H
  rw[UB,zw ⋯,UY (by simp;omega)]
def Gc{k:Nat}{p:Pos}{de:Pos}(he:c_ e me)(L:("list" : Str)∈C.bs)(B:("reversed" : Str)∈C.bs)(G:Yu "list" := by rfl)(Z:Yu "reversed" := by rfl)(T:xq [e] X.env=(false,xl 0)::xq [] X.env:=by rfl)(P:(backTo de<|xq [] X.env).any (·.1)=false:=by rfl)(y:xq [.Call (.Name "reversed" p2) [e] [] de] X.env=(false,eval (.Call (.Name "reversed" p2) [e] [] de) X.env)::xq [] X.env:=by rfl)(l:(As<|xq [] X.env).any (·.1)=false:=by rfl):
  c_ (.Call (.Name "list" p) [.Call (.Name "reversed" p2) [e] [] de] [] pos) (mUn vO me):=λc n s σ H Q I h=>by
 refine Uv (jF I G (c.bn _ L) PyProof.Rows.Boot.«list» ?_ (by decide) (by decide));refine UA ?_ y l
 change W0 (spliced ((false,eval (.Call _ [e] [] de) X.env)::As _)) _ _ s
 refine Calls.spliced_cons <|Uv (jF I Z (c.bn _ B) boot_reversed ?_ (by decide)<|by decide);let⟨φ,δ,h,rh,re,po⟩:=h;refine UA (thn (tL (he c) zT T de n s σ H (λS g=>∃x,S=[x]/\r1 C vO x g Q) I ⟨φ,δ,h,rh,re,(post.bind po).imp ?_⟩) λU m hh=>?_) T P
 ·rintro v g ⟨j,x,d,p1,t1,R,J,q⟩;show⟨v,rfl,j,d,x,R,J,q⟩
 let⟨S,g,f,rv,x,rfl,j,d,px,R,rx,q⟩:=hh;let⟨u,rfl,ru⟩:=vals1 rv;unfold vO at q;cases E:fQ px d with
 |none=>rw[E]at q;show q.elim
 |some xs=>
  rw[E]at q;let⟨a,ws,rfl,sa,ra⟩:=dO R rx E;cases ru
  let⟨i,w,M,D⟩:=f.list (by rw[c.K];show sa);refine call_reversed_list M.isList ?_
  change W0 (spliced<|backTo pos _) _ _ _
  refine Calls.spliced_nil ?_;let O:i.toArray.size=i.length:=by simp
  let N:=let ⟨o,ho,_⟩:=M.isList;wt ho;let Y:(m.heap.push<|revObj a<|(i.toArray.size:Int)-1).IsRevIter _ a ((i.toArray.size:Int)-1):=⟨_,XO rfl,rfl,rfl⟩;let W:(m.heap.push<|revObj a<|(i.toArray.size:Int)-1).IsList a _:=let ⟨o,ho,r⟩:=M.isList;⟨o,W4 ho,r⟩;refine xJ (XT 0) Y W (xj N) (by rw[O,<-w.length];show D) λh' tk A c' hk hS z=>?_;let F:m.heap.objs.size<=(m.heap.push<|revObj a<|(i.toArray.size:Int)-1).objs.size:=by rw[zf];show Nat.le_succ _
  let kp:=λb o e=>hk b o (xj (wt e)) (W4 e);let I2:=f.laid (t':=tk) (o:=.lst _) kp F ⟨by rw[Vd];show D,A.toList,c',by
   rw[Gb z];let hr:∀{S:i_ V}{U:Xu 0},aI S U->aI S.reverse U.reverse:=by
    intro S U r
    induction r with
    |nil=>exact .nil
    |cons a t ih=>simp[List.reverse_cons];show aI.append ih<|.cons a .nil
   simpa using hr w,by rw[Array.toArray_toList];show hS⟩
  show⟨.ref (m.heap.push<|revObj a<|(i.toArray.size:Int)-1).objs.size,_,I2,rfl,q.lnew R ra.reverse<|f.hok.fresh F⟩
def Gd(e:h[n]?=a0 (.lst xs)):vO (.ref n) h=.ok (.ref h.length) (h++[.lst xs.reverse]):=by simp[vO,fQ,aH,e]
section
variable{v:d8}{es:Y8 0}
def yY(h:s.TypeIs (.ref dc) "dict")(d:(dc == Uy)=false)(h1:W6 0=a0 oc)(h2:oc.data=.dict es ep)(q:Q (.ref<|(s).heap.objs.size) {s with heap:=s.heap.push {cls:=.type "dict_keyiterator",data:=.fields #[.ref dc,.int 0 0,.int es.size 0,.int ep 0]} }):cu (pyIter<|.ref dc) Q E s:=by
 refine wpAny_pyIter_slot h F.slot_dict_iter<|zd F.slot_dict_iter h F.entry_dict_iter ?_<|F.args_dict_iter_1 _;refine vy <|vy<|Wj h ?_;refine v8 ?_
 change W0 (Wl dc >>= _) _ _ s
 unfold Wl;rw[if_neg (by rw[d];show xh)];refine vy<|v8 ?_;refine vy<|z0 h1 h2 ?_;refine vy<|UM h1 h2 ?_;refine vy<|xy<|v8 ⟨_,rfl,"dict_keyiterator",_,⟨_,XO rfl,rfl⟩,U1.lookup,?_⟩;simpa[rawInt] using q
def Cd{Q:jh d6->d7->Prop}(h:βw ep)(h1:W6 0=a0 oc)(h2:oc.data=.dict es ep)(l)(q:∀H,H.IsKeyIter it dc (i+1) es.size ep->U9 it s.heap H->Q (a0 es[i].key) {s with heap:=H}):cu (pyNext<|.ref it) Q E s:=by
 let⟨o,G,z,g⟩:=id h;refine vy<|U3<|y0 h.typeIs U1<|zd U1 h.typeIs F.entry_dict_keyiterator_next ?_<|F.args_dict_keyiterator_next_1 _;refine vy<|v8<|vy<|vy ?_
 first|refine vy (Vr h.typeIs<|v8 ?_)|refine vy (γW<|v8 ?_)
 refine vy<|VO G g ?_;refine vy<|v8<|vy<|z0 h1 h2 ?_;rw[if_neg<|show ¬ _ by simp];refine vy<|v8<|vy<|UM h1 h2 ?_;rw[if_neg<|show ¬ _ by simp];refine v8 ?_;simp[if_false,UN l];refine vy ?_
 first|refine vy (Vr h.typeIs<|v8 ?_)|refine vy (γW<|v8 ?_)
 refine vy (wpAny_isOneOf_keyiter h.typeIs<|show W0 (setField (.ref it) 1 (rawInt<|(i:Int)+1) >>= _) _ _ s from vy (Vh G g (by simp) ?_))
 let I:(A1 (Uj (·.setIfInBounds 1 (rawInt<|(i)+1)))).IsKeyIter it dc (i+1) es.size ep:=⟨_,yb _ G<|Vk<|U5 g _,(Obj.cls_mapFields ..).trans z,by rw[U5 g];simp[rawInt]⟩;let t:({s with heap:=A1 (Uj (·.setIfInBounds 1 (rawInt<|(i)+1)))}:d7).TypeIs _ "dict_keyiterator" := I.typeIs;refine vy<|Io<|vy<|wpAny_isOneOf_keyiter t ?_;show v8<|v8 ⟨_,rfl,v8<|q _ I<|yj ..⟩
def Ce{Q:jh d6->d7->Prop}(y:A.handled=a7)(h:βw ep)(h1:W6 0=a0 oc)(h2:oc.data=.dict es ep)(g:es.size<=i)(q:∀H,YN H->Q a7 {s with heap:=H}):cu (pyNext<|.ref it) Q E s:=by
 let⟨o,G,x,z⟩:=id h;refine vy<|U3<|y0 h.typeIs U1<|zd U1 h.typeIs F.entry_dict_keyiterator_next ?_<|F.args_dict_keyiterator_next_1 _;refine vy<|v8<|vy<|vy ?_;refine vy<|Vr h.typeIs<|v8 ?_;refine vy<|VO G z ?_;refine vy<|v8<|vy<|z0 h1 h2 ?_;rw[if_neg<|show ¬ _ by simp];refine vy<|v8<|vy<|UM h1 h2 ?_;rw[if_neg<|show ¬ _ by simp];refine v8 ?_;simp[if_false,Int.toNat_natCast,zw g];refine vy ?_;refine vy<|Vr h.typeIs<|v8 ?_;refine(show W0 (setField (.ref it) 0 .none >>= _) _ _ s from vy (Vh G z (by simp) ?_))
 refine(show X1 _ from vy ?_);simp[newExc]
 refine vy (xy (vy<|wpAny_of_eq (a:=zc) rfl<|xy ?_<|by size_fits)<|by size_fits);refine vy<|wpAny_handled ?_;rw[show A.in1.handled=a7 from y]
 refine vy<|v8<|wpAny_throw ?_;refine vy<|VF ⟨_,XO rfl,rfl⟩ isSubtype_stop ?_;show v8<|q _<|((yj ..).extBut.push _).push _
def DF(u:A.handled=a7)(I dc)(n:dc≠I)(oc)(es)(ep)(h2:oc.data=.dict es ep):
  βV A I [I,dc] [I] es.size (λi v=>∃e,es[i]?=a0 e/\v=e.key) (λi h=>h.IsKeyIter I dc i es.size ep/\h.get? dc=a0 oc) where
 sub:=λb B=>by rw[wx.mp B];show wa
 frame:=λ_ _ _ t k=>⟨let ⟨o,e,r⟩:=t.1;⟨o,k I wa o e,r⟩,k dc (YI wa) _ t.2⟩
 item:=λi s Q E q t H=>Cd t.1 t.2 h2 q λy T S=>H _ y _ ⟨es[i],by simp,rfl⟩ ⟨T,(S.2 dc n).trans t.2⟩ λb o B e=>(S.2 b λz=>B (by rw[z];show wa)).trans e
 done:=λs Q E t H=>Ce u t.1 t.2 h2 (wj _) λy x=>H y _ λb o B e=>x b o (λz=>B (by rw[z];show wa)) e
 self:=λ_ _ _ _ t H=>wpAny_pyIter_keyiter t.1 H
def Ij(c:oc.cls=.type "dict")(d:(dc == Uy)=false)(h2:oc.data=.dict es ep):PySem.W.KdlSrc prog w "dict" dc dc es.size (λi v=>∃e,es[i]?=a0 e/\v=e.key) (λh=>h.get? dc=a0 oc) where
 type:=λ_ m=>⟨oc,m,c⟩
 there:=λ_ m=>⟨wt m,wt m⟩
 keep:=λ_ _ m k=>k dc (.inl rfl) _ m
 notList:=by decide
 notTuple:=by decide
 hint:=λ_ _ _ _ m q=>PySem.W.kdl_hint_dict ⟨oc,m,c⟩ q
 iter:=λ_ _ H m=>⟨_,_,(λ_ _ q=>yY ⟨oc,m,c⟩ d m h2 q),DF H _ dc (xj<|wt m) oc es ep h2,⟨⟨_,XO rfl,rfl,rfl⟩,W4 m⟩⟩
end
def Ik{k:Nat}{σ:St}{d:Nat}{b:d8}(c:vn X)(I:q_ s)(R:m_ h)(hb:φ[d]?=a0 b)(e:YK d=a0 kvs):
  (b == Uy)=false/\kvs.length<=w9/\∃o E P,oa 0=a0 o/\o.cls=.type "dict" /\ o.data=.dict E P/\∃W,c9 (kvs.map (·.1)) W/\aI W (E.toList.map (·.key)):=by
 let⟨⟨S,Y,r,x,z,m,D⟩,_⟩:=X9 R hb e;let l:=(ze r).trans<|ze x;refine⟨m,by rw[l];show z,?_⟩;let⟨o,E,P,G,y,v,g,u,n⟩:=D;refine⟨o,E,P,G,y.1,v,S.map<|λq=>V.ref q.2.1,?_,?_⟩
 ·clear x l e
  induction r with
  |nil=>trivial
  |cons q t i=>exact⟨q.2.2.1,i⟩
 ·rw[g];clear r l z g u n
  induction x with
  |nil=>exact .nil
  | @cons p q j Q h t i=>exact .cons (show RelV (.ref p.2.1) _ by rw[h.2.1];rfl) i
abbrev fC:x_ 0->PH->W_ 0:=λxs h=>match xs with
 |[.ref n]=>match YK n with
  |some kvs=>.ok (.ref h.length) (h++[.lst (kvs.map (·.1))])
  |none=>vJ xs h
 |_=>vJ xs h
def DG{es:Y8 0}(h:ItemsOf (λi v=>∃e,es[i]?=a0 e/\v=e.key) acc es.size):acc.toList=es.toList.map (·.key):=by
 apply UX;intro i;rw[xf,UB,UB];by_cases I:i<acc.size
 ·let E:acc[i]?=a0 acc[i]:=by simp
  let⟨e,H,z⟩:=h.2 i _ E;rw[E,H,z];rfl
 ·let y:¬ i<es.size:=by rw[<-h.1];show I
  rw[zw ⋯,zw ⋯];rfl
def DH{k:Nat}(c:vn X):δu (.type "list") (λx H Q=>∃(z:i_ d8)(h:PH)(d:Nat)(b:d8)(v:i_ (PV×PV)),x=[.ref b]/\Xl z H h/\z[d]?=a0 b/\YK d=a0 v/\∀l w,H l=a7->Zd z H (v.map (·.1)) w->Q (.ref l) (t_ l<|.lst w)):=by
 intro p s V H x f Q I r h;let⟨z,h,d,b,v,rfl,j,B,Y,q⟩:=h;let⟨u,rfl,U⟩:=vals1 r;cases U
 let⟨M,Z,O,E,P,g,m,G,w,R,y⟩:=Ik c I j B Y;let N:E.size<=w9:=by
  let e:=R.length;let n:w.length=E.size:=by have:=y.length;simpa using this
  rw[wd]at e;rw[<-n,<-e];show Z
 refine PySem.W.kdl_call (Ij m M G) (XT 0) g N λi T a t K S A=>?_;refine⟨.ref _,_,I.laid (o:=.lst w) K (wj _) ⟨?_,a.toList,t,by rw[DG A];show y,by rw[Array.toArray_toList];show S⟩,rfl,q _ w I.fresh R⟩;rw[<-R.length,wd];show Z
open H in
def Lz{k:Nat}:Yj (.type "list") fC:=λc=>bX.imp (bX.or (Ll c)<|DH c) λV H Q h=>by
 let⟨z,h,P,r,R,p⟩:=h;unfold fC at p;split at p
 ·rename_i n;split at p
  ·rename_i s e;let⟨v,rfl,⟨a,rfl,A⟩⟩:=R.one;show .inr ⟨z,h,n,a,s,rfl,r,A,e,λl W L w=>p.lnew r w L⟩
  ·show .inl ⟨z,h,_,r,R,p⟩
 ·show .inl ⟨z,h,_,r,R,p⟩
def iI(e:h[n]?=a0 (.lst xs)):fC [.ref n] h=.ok (.ref h.length) (h++[.lst xs]):=by
 let E:YK n=a7:=by simp[aX,e]
 let z:iF h n=a7:=by simp[iF,e]
 unfold fC;simp[E];unfold vJ;simp[z];simp[BR,aH,e]
section
variable{k:Nat}
abbrev vP:x_ 0->jh (yp 0)
 |[]=>a0 []
 |.str x::r=>(vP r).map (x::·)
 |_::_=>a7
abbrev jnd(sep:Str):yp 0->Str
 |[p]=>p
 |l=>Builtin.Str.glued sep l
abbrev LA(sep:Str)(l:yp 0):Nat:=l.toArray.foldl (·+·.length+sep.length) 0
abbrev LC(x:PV)(_:PH):Bool:=match x with
 |.str _=>true
 |_=>false
abbrev vQ:PV->x_ 0->PH->W_ 0:=λx ps h=>match x,ps with
 |.str sep,[.ref n]=>match dG h n with
  |some ys=>match vP ys with
   |some zs=>if LA sep zs<=w9/\(jnd sep zs).length<=w9 then .ok (.str<|jnd sep zs) h else .bad
   |none=>.bad
  |none=>.bad
 |_,_=>.bad
def yZ{φ:i_ d8}{H:Hp}:∀{ys:x_ 0}{zs:yp 0}{vs:i_ V}{us:Xu 0},vP ys=a0 zs->εf vs->Z3 0->∃l,us=strValues l/\l.map (·.1)=zs
 |[],zs,[],us,e,_,R=>by cases R;cases e;show⟨[],rfl,rfl⟩
 |p::ys,zs,v::vs,us,e,r,R=>by
  cases R with
  | @cons _ u _ s h t=>
   cases p with
   |str x=>
    unfold vP at e;cases E:vP ys with
    |none=>rw[E]at e;cases e
    |some Z=>
     rw[E]at e;cases e
     let⟨l,rfl,rfl⟩:=yZ E r.2 t;let z:=r.1;subst z;let⟨T,rfl⟩:=h;show⟨(x,T)::l,rfl,rfl⟩
   |_=>cases e
 |[],_,_::_,_,_,r,_=>r.elim
 |_::_,_,[],_,_,r,_=>r.elim
open H in
def LD(c:vn X):MtR X "str.join" (rM C vQ):=λP s V H x g v G Q I O W h=>by
 let⟨φ,h,p,J,j,Y,R,o⟩:=h;unfold vQ at o;split at o
 ·rename_i e n;split at o
  ·rename_i N y;split at o
   ·rename_i M Z;split at o
    ·rename_i E;subst Y;let⟨T,rfl⟩:=O;let⟨D,rfl,⟨a,rfl,A⟩⟩:=R.one;let⟨u,rfl,U⟩:=vals1 W;cases U
     let K:h[n]?=a0 (.lst N):=by
      unfold dG at y;split at y
      ·rename_i q;cases y;show q
      ·cases y
     let⟨B,f,S⟩:=j.at' n a _ A K;let⟨_,b,m,i,_,d⟩:=I.lstM f;let⟨l,rfl,w⟩:=yZ Z S i;let z:=o.val j rfl;let t:Builtin.Str.tooLong ((l.map (·.1)).toArray.foldl (·+·.length+e.length) 0)=false:=by
      rw[w]
      change decide (LA e M>w9)=false
      show decide_eq_false ⋯
     refine call_meets PySem.F.slot_str_join (Yy e T) PySem.F.entry_str_join (PySem.F.args_str_join_2 _ _) (meets_str_join_list e T a l t) ⟨⟨_,d,rfl,m,rfl⟩,?_⟩;subst w;let L:=E.2
     match l,z,L with
     |[],z,L=>exact⟨L,.str _,H,Xx 0,⟨_,rfl⟩,z⟩
     |[p],z,L=>exact⟨.str _,H,I,⟨_,rfl⟩,z⟩
     |p::q::r,z,L=>exact⟨L,.str _,H,Xx 0,⟨_,rfl⟩,z⟩
    ·show o.elim
   ·show o.elim
  ·show o.elim
 ·show o.elim
def OD:αx "str" LC "str.join" vQ:=λc=>⟨LD c,λi s w H u h p x v I y R r e=>by
 cases p with
 |str z=>subst R;let⟨t,rfl⟩:=r;show⟨Yy z t,λa e=>nomatch e⟩
 |_=>cases e⟩
end
section
variable{k:Nat}{o:Obj}{its:y_ 0}{vs:i_ V}{ps:x_ 0}
abbrev MV:PV->jh V
 |.non=>a0 .non
 |.bl b=>a0 (.bl b)
 |.int i=>a0 (.int i)
 |.str z=>a0 (.str z)
 |_=>a7
abbrev AD:x_ 0->jh (i_ V)
 |[]=>a0 []
 |p::r=>match MV p,AD r with
  |some v,a0 vs=>a0 (v::vs)
  |_,_=>a7
def LF{v:V}(e:MV p=a0 v):Xq v:=by cases p <;> first|(cases e;rfl)|cases e
open H in
def Cf{φ:i_ d8}{H:Hp}:∀{ps:x_ 0}{vs:i_ V},AD ps=a0 vs->c9 ps vs
 |[],vs,e=>by cases e;trivial
 |p::ps,vs,e=>by
  unfold AD at e;split at e
  ·rename_i v w E z;cases e
   show⟨LF E,Cf z⟩
  ·cases e
abbrev Ri(K:wc)(a:d8)(ps:x_ 0):Prop:=∃(o:Obj)(its:y_ 0)(n:Nat)(vs:i_ V),βZ 0=a0 o/\o.cls=.type "tuple" /\ o.data=.seq its n/\its.size<=w9/\aI vs its.toList/\o.dict=a7/\AD ps=a0 vs
def OE(m:X.mg x=a0 (.ref a))(g:Ri C.K a ps)(r:Yu x:=by rfl)(d:(x == ("__debug__" : Str))=false:=by decide):c_ (.Name x pos) (mC<|.tup ps):=λc=>(E8 (v:=.ref a) r m rfl d).imp λj H Q h=>by let⟨q,l,h,R,e,p⟩:=h;let⟨o,i,n,V,G,z,y,w,u,t,s⟩:=g;show p q _ H wm (βL 0) R ⟨a,V,rfl,.inr ⟨o,i,n,G,z,y,w,u,t⟩,Cf s⟩
end
def AE{z:PV}(e:YK n=a0 kvs)(k:(ZL 0).ky 6=true)(l:kvs.length<16777216):iZ (.ref n) (.tup xs) z h=a0 (WY<|.dD<|cL kvs (.tup xs) z):=by show Ic e k l
def AF{kvs:i_ (Key×PV)}{z:PV}(e:h[n]?=a0 (.dK kvs))(l:kvs.length<16777216):iZ (.ref n) (.str x) z h=a0 (WY<|.dK<|cL kvs (.inr x) z):=by
 change xN (.ref n) _ z h=_
 show Lk e l
abbrev Il:HO->Prop
 |.tup _=>False
 |.own _=>False
 |.tbl _=>False
 |_=>True
section
variable{σ:St}
def Inv.swap{d:d8}{u u':HO}(I:q_ s)(h:H d=a0 u)(U:Il u)(hz:∀o z,X.H₀ d≠a0 (.frz o z))(E:Z2 (t_ d u') s.heap d u'):a8 (t_ d u') s:=by
 let N:∀b,H b=a7->b≠d:=λb n z=>by rw[z,h]at n;cases n
 let T:∀b S,H b=a0 (.tup S)->b≠d:=λb S n z=>by rw[z,h]at n;cases n;show U
 let k:∀b y,H b=a0 (.tbl y)->b≠d:=λb S n z=>by rw[z,h]at n;cases n;show U
 refine⟨I.ok,I.os,I.bare,⟨I.base.keep,I.base.slot,λb o e n l=>?_,I.base.there,λb S e=>?_,λb o S e=>?_,λb i e=>?_⟩,I.loc,I.cell,?_,λx c e=>?_,λp P=>?_,λb o e=>?_,I.len⟩
 ·have:=αj e n l;rw[aF<|N b this];show this
 ·have:=I.base.tups b S e;rw[aF<|T b S this];show this
 ·have:=I.base.frzs b o S e;let j:b≠d:=λz=>hz o S<|z▸e;rw[aF j];show this
 ·let⟨m,t⟩:=I.base.tbls b i e;show⟨m,by rw[aF<|k b _ t];show t⟩
 ·rw[aF<|N _ I.free];show I.free
 ·have:=I.freeC x c e;rw[aF<|N _ this];show this
 ·let⟨e,n,r⟩:=αO P;show⟨e,by rw[aF<|N _ n];show n,r⟩
 ·by_cases B:b=d
  ·subst B;rw[aJ]at e;cases e;show E
  ·rw[aF B]at e;show(αP o e).stay (λc v _ q=>q) (λc q=>by rw[aF<|(λb S n z=>by rw[z,h]at n;cases n;show U) c b q];show q) λc S q=>by rw[aF<|T c S q];show q
def Inv.nofrz{d:d8}(I:q_ s)(h:∀o z,H d≠a0 (.frz o z)):∀o z,X.H₀ d≠a0 (.frz o z):=λo z e=>h o z<|I.base.frzs d o z e
def Inv.freeze{d:d8}{u:HO}(I:q_ s)(h:H d=a0 u)(U:Il u)(f:∀o z,u≠.frz o z)(O:s.heap.get? d=a0 oc):a8 (t_ d<|.frz oc u) s:=by refine I.swap h U (I.nofrz λo z e=>?_) ⟨O,(I.hok d u h).stay (λc v _ q=>q) (λc q=>by rw[aF<|(λb x n z=>by rw[z,h]at n;cases n;show U) c d q];show q) λc x q=>by rw[aF<|(λb x n z=>by rw[z,h]at n;cases n;show U) c x q];show q⟩;rw[h]at e;show f o z<|yi e
def Inv.thaw{d:d8}{u:HO}(I:q_ s)(h:H d=a0 (.frz oc u))(hz:∀o z,X.H₀ d≠a0 (.frz o z)):a8 (t_ d u) s:=by
 let t:∀b x,H b=a0 (.tup x)->b≠d:=λb x n z=>by rw[z,h]at n;cases n
 let N:∀b y,H b=a0 (.own y)->b≠d:=λb x n z=>by rw[z,h]at n;cases n
 let⟨_,q⟩:=I.hok d _ h;show I.swap h trivial hz (q.stay (λc v _ q=>q) (λc q=>by rw[aF<|N c d q];show q) λc x q=>by rw[aF<|t c x q];show q)
end
abbrev ItI(dc:d8)(oc:Obj)(u:HO)(ks:i_ (V×V)):It:=⟨λi H=>H dc=a0 (.frz oc u)/\i<ks.length,λi H x H'=>∃t kv,H t=a7/\ks[i]?=a0 kv/\x=.ref t/\H'=t_ t (.tup [kv.1,kv.2]),λi H=>H dc=a0 (.frz oc u)/\ks.length<=i⟩
abbrev ItK(dc:d8)(oc:Obj)(u:HO)(ks:i_ V):It:=⟨λi H=>H dc=a0 (.frz oc u)/\i<ks.length,λi H x H'=>H'=H/\ks[i]?=a0 x,λi H=>H dc=a0 (.frz oc u)/\ks.length<=i⟩
variable{elts:i_ g_}{x1:Nat}
def DI(it d:d8)(O:Obj)(u:HO)(V)(ep:Nat)(h2:O.data=.dict V ep)(ks)(hl:ks.length=V.size)(hk:∀(i:Nat)(D:i<V.size),∃y,ks[i]?=a0 y/\RelV y.1 V[i].key/\RelV y.2 V[i].val):αC (.Tuple elts x1 pos) (ItI d O u ks) [it] it (λi h=>∃x l,IsItemIter h it d i V.size ep x l) where
 mem:=by simp
 obj:=λi h ⟨x,l,t⟩ b B=>by
  let e:b=it:=by simpa using B
  subst e;show⟨_,t,λv z=>by cases z⟩
 keep:=λi h J ⟨x,l,t⟩ k=>⟨x,l,k it (by simp) _ t⟩
 item:=by
  intro X hP hw hK C i S s σ H E I R ⟨x,l,t⟩ ⟨Q,D⟩;let j:i<V.size:=⋯;let⟨y,g,r1,r2⟩:=hk i j;let⟨f,F,f2,Z,Y,U⟩:=R it (by simp);refine next_item t ((I.hok d _ Q).1) h2 j λJ M gt kp=>⟨_,rfl,?_⟩;refine wpAny_letOwnedTupleGo_items M λj5 hI a=>?_;let L:=I.hok.fresh<|wj _;let A:=zr<|wt t;let p:=λb o B e=>(a.2 b B).trans<|kp b o B e;let T:∀b u,H b=a0 u->b≠it:=λb u e z=>by rw[z,f]at e;cases e
  let N:∀b u,H b=a0 u->b≠((s).heap.objs.size):=λb u e z=>by rw[z,L]at e;cases e
  refine⟨.ref _,t_ _ _,?_,rfl,⟨_,y,L,g,rfl,rfl⟩,⟨_,_,hI⟩,λb B=>?_⟩
  ·refine Inv.step (s:=s) (ch:=[it]) I (λb B=>?_) (λb o _ _ C e _=>p b o (λz=>C<|by simp[z]) e) (λb o _ _ C e _=>⟨o.slots,p b o (λz=>C<|by simp[z]) e⟩) (λb o C e n=>?_)
    (λb o C e=>⟨o,p b o (λz=>C<|by simp[z]) e⟩) (λb xs e=>by rw[aF<|N _ _ e];show e) (λb o u e=>by rw[aF<|N _ _ e];show e) (λb ps e=>⟨#[],by rw[aF<|N _ _ e,e];simp⟩) (λm hm=>?_) (λb u e=>?_) I.bare
   ·let e:b=it:=by simpa using B
    subst e;show⟨Z,F,Y,U⟩
   ·rw[aF<|xj<|wt e];show n
   ·let⟨o,V,ep,ho,r⟩:=hm;show⟨o,V,ep,p _ o (zj F) ho,r⟩
   ·by_cases B:b=((s).heap.objs.size)
    ·subst B;rw[aJ]at e;cases e
     show⟨by change 2<=w9;rw[kT];decide,[V[i].key,V[i].val],.cons r1<|.cons r2 .nil,_,((a.2 _ A).trans gt),rfl,⟨_,rfl⟩,rfl⟩
    ·rw[aF B]at e;refine(αP u e).stay (λc v C q=>p c v ?_ q) (λc q=>by rw[aF<|N _ _ q];show q) λc xs q=>by rw[aF<|N _ _ q];show q
     rcases C with z|z
     ·rw[z];show T b u e
     ·show T c _ z
  ·let e:b=it:=by simpa using B
   subst e;rw[aF<|zj A];show f
 done:=by intro X hP hw hK C i S s σ H E I R ⟨x,l,t⟩ ⟨Q,D⟩;let⟨f,F,f2,Z,Y,U⟩:=R it (by simp);show FU (I.ok.hd C) t ((I.hok d _ Q).1) h2 ⋯ λJ G=>⟨rfl,I.turned (λb o B e=>G b o B e) f F Z Y U⟩
 self:=λ_ _ _ _ _ ⟨_,_,t⟩ h=>Dk t h
def Ge(it D)(Z)(u)(es)(ep)(h2:Z.data=.dict es ep)(ks)(A:ks.length=es.size)(M:∀(i:Nat)(a),∃x,ks[i]?=a0 x/\C_ es[i].key):αC tg (ItK D Z u ks) [it] it (λi h=>h.IsKeyIter it D i es.size ep) where
 mem:=by simp
 obj:=λi h t b B=>by
  let e:b=it:=by simpa using B
  subst e;let⟨o,e,c,d⟩:=t;show⟨o,e,λv z=>by rw[d]at z;cases z⟩
 keep:=λi h j t k=>t.at λo e=>k it (by simp) o e
 item:=by
  intro X N L Q C i p s Y H E I f t ⟨g,a⟩;let y:i<es.size:=⋯;let⟨x,r,J⟩:=M i y;let⟨F,q,R,n,m,l⟩:=f it (by simp);refine Cd t ((I.hok D _ g).1) h2 y λj S G=>?_;let U:Xd p Y H {s with heap:=j}:=I.turned (λb o B e=>(G.2 b B).trans e) F q n m l;let⟨o,e,c,d⟩:=id S;show⟨_,rfl,E9 e c d (by decide) ⟨x,H,U,J,⟨rfl,r⟩,S,λb B=>(f b B).1⟩⟩
 done:=by intro X N L Q C i p s Y H E I f t ⟨g,a⟩;let⟨F,q,R,n,m,l⟩:=f it (by simp);show Ce (I.ok.hd C) t ((I.hok D _ g).1) h2 ⋯ λj T=>⟨rfl,I.turned (λb o B e=>T b o B e) F q n m l⟩
 self:=λ_ _ _ _ _ t h=>wpAny_pyIter_keyiter t h
abbrev iJ:MO->jh (x_ 0)
 |.dK kvs=>a0 (kvs.map λkv=>.tup [kP kv.1,kv.2])
 |.dD kvs=>a0 (kvs.map λkv=>.tup [kv.1,kv.2])
 |_=>a7
abbrev Cg:MO->jh (x_ 0)
 |.dK kvs=>a0 (kvs.map λkv=>kP kv.1)
 |.dD kvs=>a0 (kvs.map (·.1))
 |_=>a7
abbrev tH:jh MO->Bool
 |some (.dK _)=>true
 |some (.dD _)=>true
 |_=>false
abbrev wkI(b:Bool)(x:PV)(h:PH):jh (Nat×MO×x_ 0):=match x with
 |.ref n=>match h[n]? with
  |some (.vw 0 d)=>if b then(h[d]?).bind λo=>(iJ o).map λxs=>(d,o,xs) else a7
  |some o=>(Cg o).map λxs=>(n,o,xs)
  |none=>a7
 |_=>a7
abbrev vR(b:Bool)(m:Me):Mi:=λδ h=>(Xn h).bind λx h1=>match γE h1 with
 |some (d,o,xs)=>.ok ⟨xs,λ_=>true⟩ (δ4<|.fz o)
 |none=>.bad
section
variable{k:Nat}{σ:St}
def OF{k:Key}(h:uA k v=true):RelV (kV k) v:=by
 rcases bJ h with⟨i,t,rfl,rfl⟩|⟨x,t,rfl,rfl⟩
 ·show⟨t,rfl⟩
 ·show⟨t,rfl⟩
def zA{α β:Type}{F:α->β->Prop}{l:ZH 0}{m:i_ β}(h:Paired F l m):∀{i:Nat}{a:α},l[i]?=a0 a->∃b,m[i]?=a0 b/\F a b:=by
 induction h with
 |nil=>intro i a e;simp at e
 |cons r t ih=>
  intro i a e;cases i with
  |zero=>cases e;show⟨_,rfl,r⟩
  |succ i=>exact ih e
def vS{α β:Type}{F:α->β->Prop}{l:ZH 0}{m:i_ β}(h:Paired F l m):∀{i:Nat}{b:β},m[i]?=a0 b->∃a,l[i]?=a0 a/\F a b:=by
 induction h with
 |nil=>intro i a e;simp at e
 |cons r t ih=>
  intro i a e;cases i with
  |zero=>cases e;show⟨_,rfl,r⟩
  |succ i=>exact ih e
def EH(a:Key):b6 (kP a) (kV a):=by cases a <;> rfl
def Im{kvs:i_ (Key×PV)}{ks:i_ (Key×V)}(r:WR kvs ks):c9 (kvs.map λv=>kP v.1) ((ks.map λq=>(kV q.1,q.2)).map (·.1)):=by
 induction r with
 |nil=>trivial
 | @cons p q P Q e t i=>exact⟨by change b6 (kP p.1) _;rw[e.1];show EH q.1,i⟩
def Ip{ks:i_ (PV×d8×V)}(r:βQ 0):c9 (kvs.map (·.1)) ((ks.map λq=>(V.ref q.2.1,q.2.2)).map (·.1)):=by
 induction r with
 |nil=>trivial
 | @cons p q P Q e t i=>exact⟨e.2.2.1,i⟩
structure Rj(C:MC)(φ:i_ d8)(H:Hp)(s:d7)(b:d8)(o:MO)(ks:i_ (V×V))(u:HO)(oc:Obj)(es:Array UU)(ep:Nat):Prop where
 at':H b=some u
 nf:Il u
 nz:∀o z,u≠.frz o z
 nt:uV (some u)
 get:s.heap.get? b=some oc
 cls:oc.cls=.type "dict"
 data:oc.data=.dict es ep
 nsys:(b == Uy)=false
 fz:∀φ' H',φ<+:φ'->H' b=some (.frz oc u)->Kp H H'->RO C φ' H' b (.fz o)
 len:ks.length=es.size
 ent:∀(i:Nat)(hi:i<es.size),∃kv,ks[i]?=some kv/\RelV kv.1 es[i].key/\RelV kv.2 es[i].val
 keys:∀xs,Cg o=some xs->RVs C φ H xs (ks.map (·.1))
 items:∀xs,iJ o=some xs->xs.length=ks.length/\∀(i:Nat) p,xs[i]?=some p->∃p1 p2 kv,p=.tup [p1,p2]/\ks[i]?=some kv/\RV C φ H p1 kv.1/\RV C φ H p2 kv.2
def EI{d:Nat}{b:d8}(c:vn X)(I:q_ s)(A:m_ h)(hb:φ[d]?=a0 b)(B:h[d]?=a0 o)(hd:tH (a0 o)=true):∃S u O E P,Rj C φ H s b o S u O E P:=by
 cases o with
 |dK T=>
  let⟨S,w,R⟩:=A.at' d b _ hb B;let⟨z,M,F,L,⟨O,E,P,G,a,Z,Y,W,g6⟩⟩:=γc w;let N:E.size=F.length:=by have:=vH W;have:=Y0 this;simpa using this
  refine⟨S.map λq=>(kV q.1,q.2),_,O,E,P,w,trivial,(λ_ _ e=>by cases e),trivial,G,a.1,Z,M,λD J p e t=>⟨O,S,e,R.mono p t⟩,by rw[wd,(ze L),N],λi U=>?_,λy x=>?_,λy x=>?_⟩
  ·let m:F[i]?=a0 (F[i]'⋯):=by simp
   let j:E.toList[i]?=a0 E[i]:=by simp[U]
   let⟨q1,q2⟩:=W.get? j m;let⟨v,K,r⟩:=vS L m;refine⟨(kV v.1,v.2),by rw[xf,K];rfl,?_,?_⟩
   ·rw[r.1];show OF q1
   ·rw[q2];show r.2
  ·cases x
   show Im R
  ·cases x
   refine⟨by rw[wd,wd,(ze R)],λi p e=>?_⟩;rw[xf]at e;let⟨v,g,rfl⟩:=xv.mp e;let⟨q,f,l⟩:=zA R g;show⟨_,_,(kV q.1,q.2),rfl,by rw[xf,f];rfl,by change b6 _ _;rw[l.1];show EH q.1,l.2⟩
 |dD T=>
  let⟨S,w,R⟩:=A.at' d b _ hb B;let⟨⟨hz,M,y,Q,O,E,P,G,a,Z,Y,W⟩,_⟩:=αP _ w;let N:E.size=y.length:=by have:=Y0 Y;simpa using this
  refine⟨S.map λq=>(V.ref q.2.1,q.2.2),_,O,E,P,w,trivial,(λ_ _ e=>by cases e),trivial,G,a.1,Z,M,λD J p e t=>⟨O,S,e,R.mono p t⟩,by rw[wd,(ze Q),N],λi U=>?_,λy x=>?_,λy x=>?_⟩
  ·let m:y[i]?=a0 (y[i]'⋯):=by simp
   let j:E.toList[i]?=a0 E[i]:=by simp[U]
   rw[Y,xf,m]at j;let n:=yi j;let⟨v,K,r⟩:=vS Q m;refine⟨(V.ref v.2.1,v.2.2),by rw[xf,K];rfl,?_,?_⟩
   ·rw[<-n,r.2.1];rfl
   ·rw[<-n];show r.2.2
  ·cases x
   show Ip R
  ·cases x
   refine⟨by rw[wd,wd,(ze R)],λi p e=>?_⟩;rw[xf]at e;let⟨v,g,rfl⟩:=xv.mp e;let⟨q,f,l⟩:=zA R g;show⟨_,_,(V.ref q.2.1,q.2.2),rfl,by rw[xf,f];rfl,l.2.2.1,l.2.2.2⟩
 |_=>cases hd
def Iq(h:Cg o=a0 xs):tH (a0 o)=true:=by cases o <;> first|rfl|cases h
def zB(h:iJ o=a0 xs):tH (a0 o)=true:=by cases o <;> first|rfl|cases h
open H in
def LG{x:PV}{d:Nat}(e:γE h=a0 (d,o,xs)):∃n,x=.ref n/\((h[n]?=a0 (.vw 0 d)/\b=true/\h[d]?=a0 o/\iJ o=a0 xs)\/(h[n]?=a0 o/\n=d/\Cg o=a0 xs)):=by
 unfold wkI at e;split at e
 ·rename_i n;refine⟨n,rfl,?_⟩;split at e
  ·rename_i D v;split at e
   ·rename_i B;cases z:h[D]? with
    |none=>rw[z]at e;cases e
    |some O=>
     rw[z]at e;cases E:iJ O with
     |none=>simp[E]at e
     |some y=>simp[E]at e;let⟨rfl,rfl,rfl⟩:=e;show .inl ⟨v,B,z,E⟩
   ·cases e
  ·rename_i O _ v;cases E:Cg O with
   |none=>rw[E]at e;cases e
   |some y=>rw[E]at e;simp at e;let⟨rfl,rfl,rfl⟩:=e;show .inr ⟨v,rfl,E⟩
  ·cases e
 ·cases e
abbrev walk2(b:Bool)(x:PV)(h1:PH):Rs Wk:=match γE h1 with
 |some (d,o,xs)=>.ok ⟨xs,λ_=>true⟩ (δ4<|.fz o)
 |none=>.bad
def OG{m:Me}(b)(hb:b=true->∃L x1 pos,tg=.Tuple L x1 pos)(h:c_ iter m):Xp (vR b m):=λc=>by
 rintro q s σ H R I ⟨φ,δ,hh,rh,re,p⟩;let key:rd C m σ H λv Z=>∃l x U,φ<+:l/\L_ Z/\Xl l Z U/\RV C l Z x v/\fR C l Z (walk2 b x U) R:=by
  refine⟨φ,δ,hh,rh,re,?_⟩;unfold vR at p;cases e:Xn hh with
  |ok x U=>
   rw[e]at p;refine λφ' v G p' t' gj k9=>⟨φ',x,U,p',t',gj,k9,?_⟩;let d:Zm (walk2 b x U) R:=p;cases e2:walk2 b x U with
   |ok w N=>rw[e2]at d;show λr j J P g=>d r j J (p'.trans P) (t'.trans g)
   |exc z N=>rw[e2]at d;show λr j P g=>d r j (p'.trans P) (t'.trans g)
   |bad=>rw[e2]at d;show d
  |exc x U=>rw[e]at p;show p
  |bad=>rw[e]at p;show p
 refine thn (h c q s σ H _ I key) λv S w0=>?_;let⟨x,Z,I1,r1,l,x',U,p1,t1,Q,nq,I⟩:=w0;unfold walk2 at I;cases e:wkI b x' U with
 |none=>rw[e]at I;show I.elim
 |some t=>
  let⟨d,o,V⟩:=t;rw[e]at I;let⟨n,rfl,A⟩:=LG e;let⟨a,rfl,ha⟩:=nq;cases r1
  -- the frozen heap
  let L:∀{Y:d8}{M:i_ _}{u:HO}{O:Obj}{w:Y8 0}{z:Nat}(B)(W:Rj C l Z S Y o M u O w z)(ob)(J)(tn),(∀r j N,l<+:r->Kp (upd Z Y _) j->Xl r j N->∀i,
    (i<V.length->J.go i j/\∀x G,δs j x G->(∃p,V[i]?=a0 p/\RV C r G p x)/\Kp j G/\Xl r G N)/\(V.length<=i->β7 j))->
    Turn _ X.w X.K tg J [S.heap.objs.size] S.heap.objs.size tn->tn 0 (S.heap.push ob)->PIE X q σ tg R (.ref _) { S with heap:=S.heap.push ob}:=λ{Y M u O w z} B W ob J tn hJ hT h0=>by
   let I2:=I1.freeze W.at' W.nf W.nz W.get;let nt:uV (Z Y):=by rw[W.at'];show W.nt
   refine⟨S.heap.objs.size,[S.heap.objs.size],tn,J,upd Z Y<|.frz O u,rfl,I2.kept λb o e=>W4 e,hT,h0,λb hb=>?_,?_⟩
   ·let e:b=S.heap.objs.size:=by simpa using hb
    subst e;show I2.fpOk (wj _)<|I2.hok.fresh<|wj _
   ·show I l _ J wm (Kp.upd nt) (Q.write B nt<|W.fz l _ wm aJ<|Kp.upd nt) λr j N P g f _ i=>hJ r j N P g f i
  rcases A with⟨hv,hbt,ho,A⟩|⟨ho,rfl,A⟩
  ·let⟨Y,B,hH⟩:=Q.at' n a _ ha hv;let⟨M,u,O,w,z,W⟩:=EI c I1 Q B ho<|zB A;let⟨L,x1,pos,rfl⟩:=hb hbt;let D:=(I1.hok a _ hH).1;let⟨lx,ex⟩:=W.items V A;refine uW D W.get W.data<|L B W _ (ItI Y O u M) _ (λr j N P g f i=>⟨λn=>⟨⟨g.2 _ _ _ aJ,⋯⟩,λx G y=>?_⟩,λn=>⟨g.2 _ _ _ aJ,⋯⟩⟩) (DI _ Y O u w z W.data M W.len W.ent) ⟨.none,.none,XO rfl⟩;let⟨t,s,ht,F,rfl,rfl⟩:=y;let⟨p1,p2',uq,vg,E,rr,nk⟩:=ex i V[i] (by simp);rw[F]at E;cases E
   let T:Kp Z (upd j t<|.tup [s.1,s.2]):=(Kp.upd (by rw[W.at'];show W.nt)).trans<|g.trans<|Kp.new ht;refine⟨⟨V[i],by simp,?_⟩,Kp.new ht,f.aside ht⟩;rw[vg];show⟨t,[s.1,s.2],rfl,.inl<|.inl aJ,rr.mono P T,nk.mono P T,trivial⟩
  ·let⟨M,u,O,w,z,W⟩:=EI c I1 Q ha ho<|Iq A;let rk:=W.keys V A;let lx:=rk.length;rw[wd]at lx;refine yY ⟨O,W.get,W.cls⟩ W.nsys W.get W.data (L ha W _ (ItK a O u (M.map (·.1))) _ (λr j N P g f i=>⟨λn=>⟨⟨g.2 _ _ _ aJ,by rw[wd];omega⟩,λx G y=>?_⟩,λn=>⟨g.2 _ _ _ aJ,by rw[wd];omega⟩⟩) (Ge _ a O u w z W.data _ (by rw[wd];show W.len) λi n=>?_) ⟨_,XO rfl,rfl,rfl⟩)
   ·let⟨rfl,ey⟩:=y;let⟨p,m6,rp⟩:=rk.get ey;show⟨⟨p,m6,rp.mono P<|(Kp.upd (by rw[W.at'];show W.nt)).trans g⟩,βL 0,f⟩
   ·let⟨s,F,r1,_⟩:=W.ent i n;show⟨s.1,by rw[xf,F];rfl,r1⟩
def RH.writeQ(r:m_ h){u:HO}(e:φ[n]?=a0 a)(t:Kq H (YG u))(q:RO C φ (YG u) a o):Xl φ (YG u) (WY o):=by
 refine⟨by rw[yo];show r.len,r.nd,λm b O y x=>?_⟩;by_cases M:n=m
 ·subst M;rw[e]at y;cases y;let l:n<h.length:=by rw[<-r.len];show(X2 0).1
  rw[z9 l]at x;cases x
  show q
 ·rw[yt M]at x;let B:b≠a:=λz=>by subst z;show M ((List.getElem?_inj (X2 0).1 r.nd).mp<|e.trans y.symm)
  show(r.at' m b O y x).stayQ wm t (aF B)
abbrev vT(d:Nat)(h:PH):jh PH:=match h[d]? with
 |some (.fz o)=>a0 (h.set d o)
 |_=>a7
open H in
def Gf{d:Nat}(Y:m_ h)(D:tH h[d]?=true)(p:φ<+:φ')(t:L_ H')(R:A3 h2)(e:vT d h2=a0 h3):
  ∃a c u,H' a=a0 (.frz c u)/\(∀o z,H a≠a0 (.frz o z))/\L_ (upd H' a u)/\Xl φ' (upd H' a u) h3/\Kq H' (upd H' a u):=by
 unfold vT at e;split at e
 ·rename_i o i;cases e
  cases E:h[d]? with
  |none=>rw[E]at D;cases D
  |some Z=>
   rw[E]at D;let⟨a,j,l⟩:=Y.get E;let f:∀o z,H a≠a0 (.frz o z):=λo z q=>by
    cases Z with
    |dK v=>let⟨S,Q,_⟩:=l;rw[q]at Q;cases Q
    |dD v=>let⟨S,Q,_⟩:=l;rw[q]at Q;cases Q
    |_=>cases D
   let A:=dW p j;let w:=R.at' d a _ A i;let g:∀c u,H' a=a0 (.frz c u)->(∀x,u≠.tup x)->(∀x,u≠.lst x)->L_ _/\Kq H' _:=λc u q T N=>by
    let m:Kq H' (upd H' a u):=⟨λb x z=>by
     let n:b≠a:=by
      rintro rfl;rcases z with z|⟨O,z⟩
      ·rw[q]at z;cases z
      ·rw[q]at z;cases z;show T _ rfl
     unfold Rd;rw[aF n];show z,λb O x z=>by
     let n:b≠a:=by rintro rfl;rw[q]at z;cases z;show N _ rfl
     rw[aF n];show z⟩
    refine⟨⟨λb x z=>m.1 b x<|t.1 b x z,λb O z Q=>?_⟩,m⟩;let n:b≠a:=λW=>f O z<|W▸Q;rw[aF n];show t.2 b O z Q
   cases o with
   |dK v=>let⟨c,S,q,r⟩:=w;let⟨y,K⟩:=g c _ q (λ_ z=>by cases z) (λ_ z=>by cases z);show⟨a,c,_,q,f,y,R.writeQ A K ⟨S,aJ,r.monoQ wm K⟩,K⟩
   |dD v=>let⟨c,S,q,r⟩:=w;let⟨y,K⟩:=g c _ q (λ_ z=>by cases z) (λ_ z=>by cases z);show⟨a,c,_,q,f,y,R.writeQ A K ⟨S,aJ,r.monoQ wm K⟩,K⟩
   |_=>exact w.elim
 ·cases e
abbrev wkD(b:Bool)(m:Me)(δ:Ev)(h:PH):YJ 0:=match Xn h with
 |.ok x h1=>match γE h1 with
  |some (d,_,_)=>if tH h[d]?=true then a0 d else a7
  |none=>a7
 |_=>a7
open H in
def OH{m:Me}{d:Nat}(e:wkD b m δ h=a0 d):tH h[d]?=true:=by
 unfold wkD at e;split at e
 ·split at e
  ·split at e
   ·rename_i D;cases e
    show D
   ·cases e
  ·cases e
 ·cases e
abbrev rK(b:Bool)(m me:Me):Me:=λδ h=>match wkD b m δ h with
 |some d=>(me δ h).bind λp h2=>match vT d h2 with
  |some h3=>.ok p h3
  |none=>.bad
 |none=>.bad
def OJ(b)(m)(W:c_ e me):c_ e (rK b m me):=λc=>by
 intro F s B H Q I q;let⟨D,j,h,Z,N,p⟩:=q;unfold rK at p;cases E:wkD b m j h with
 |none=>rw[E]at p;show p.elim
 |some d=>
  rw[E]at p;refine thn (W c F s B H (λv y=>∃a O u,y a=a0 (.frz O u)/\(∀o z,H a≠a0 (.frz o z))/\Q v (upd y a u)) I ⟨D,j,h,Z,N,?_⟩) ?_
  ·cases M:me j h with
   |bad=>rw[M]at p;show p.elim
   |exc x w=>rw[M]at p;show p
   |ok S w=>
    rw[M]at p;let P:XY D H (match vT d w with|some g=>.ok S g|none=>.bad) Q:=p
    intro i v J f L R V;cases t:vT d w with
    |none=>rw[t]at P;show P.elim
    |some g=>rw[t]at P;let⟨a,O,u,q,n,K,l,T⟩:=Gf Z (OH E) f L R t;show⟨a,O,u,q,n,P i v _ f K l<|V.monoQ wm T⟩
  ·rintro v G ⟨x,y,Y,r,a,O,u,q,n,U⟩;show⟨x,_,Y.thaw q<|I.nofrz n,r,U⟩
abbrev fN:PV->x_ 0->PH->W_ 0:=λx ps h=>match x,ps with
 |.ref n,[]=>if tH h[n]?=true then .ok (.ref h.length) (h++[.vw 0 n]) else .bad
 |_,_=>.bad
open H in
def Ir:αx "dict" cF "dict.items" fN:=λc=>⟨λi s g H x S v U Q I t w h=>by
 let⟨Z,h,p,j,r,y,R,P⟩:=h;unfold fN at P;split at P
 ·rename_i n;split at P
  ·rename_i d;let⟨a,rfl,A⟩:=y;have:S=[]:=by cases S <;> first|rfl|exact R.elim
   subst this;cases t
   cases w
   cases O:h[n]? with
   |none=>rw[O]at d;cases d
   |some o=>
    rw[O]at d;let⟨K,u,z,q,E,W⟩:=EI c I r A O d;let T:s.TypeIs (.ref a) "dict" := ⟨z,W.get,W.cls⟩;refine call_meetsIn PySem.F.slot_dict_items T PySem.F.entry_dict_items (PySem.F.args_dict_items_1 _) (BL a W.nsys) ⟨T,?_⟩;let f:=I.fresh;refine⟨.ref _,_,I.laid (o:=BP 0 ((s).heap.objs.size) a) (λb u e=>W4 e) (wj _) ?_,rfl,?_⟩
    ·show⟨⟨_,XO rfl,rfl,rfl⟩,⟨_,XO rfl⟩,λm l ⟨o,e,p⟩ k=>⟨o,k o e,p⟩⟩
    ·show P _ _ _ (zp _ _) (Kp.new f) (r.new f ⟨a,dW (zp _ _) A,aJ⟩) ⟨_,rfl,by rw[<-r.len];simp⟩
  ·show P.elim
 ·show P.elim,qJ c⟩
end
def vU(e:h[n]?=a0 o)(d:tH (a0 o)=true):fN (.ref n) [] h=.ok (.ref h.length) (h++[.vw 0 n]):=by simp[fN,e,d]
def Iu{d:Nat}(e:h[n]?=a0 (.vw 0 d))(E:h[d]?=a0 o)(x:iJ o=a0 xs):wkI true (.ref n) h=a0 (d,o,xs):=by simp[wkI,e,E,x]
def OK{m:Me}{x:PV}{d:Nat}(e:Xn h=.ok x h1)(w:γE h1=a0 (d,o,xs))(H:tH h[d]?=true):wkD b m δ h=a0 d:=by simp[wkD,e,w,H]
def Iv{m:Me}{x:PV}{d:Nat}(e:Xn h=.ok x h1)(w:γE h1=a0 (d,o,xs)):vR b m δ h=.ok ⟨xs,λ_=>true⟩ (δ4<|.fz o):=by simp[vR,e,w]
def Iw{d:Nat}{l:i_ MO}(e:h1[d]?=a0 o):vT d (δ4 (.fz o)++l)=a0 (h1++l):=by
 let H:=(X2 0).1;let E:(δ4 (.fz o)++l)[d]?=a0 (.fz o):=by rw[xc (by rw[yo];show H),z9 H]
 unfold vT;rw[E];dsimp only;congr 1;rw[List.set_append_left _ _ (by rw[yo];show H),List.set_set];congr 1;apply UX;intro i;by_cases I:d=i
 ·subst I;rw[z9 H,e]
 ·rw[yt I]
def Gg{α:Type}{m:Me}{x:PV}{d:Nat}{tg:Mg}{ys:ZH 0}{emb:α->PV}(f:α->jh PV)(e:Xn h=.ok x h1)(w:γE h1=a0 (d,o,ys.map emb))(H:tH h[d]?=true)(O:h1[d]?=a0 o)(hz:ys.length<=16777216)(s:∀y∈ys,∃z,tg (emb y) (αV 0)=a0 z/\∀h,match f y with
   |none=>tst z h=.ok false h
   |some p=>tst z h=.ok true h/\elt z h=.ok p h):rK b m (bB js (vR b m) tg tst elt) δ h=.ok (.ref h1.length) (h1++[.lst (γV 0)]):=by
 unfold rK;rw[OK e w H];dsimp only;rw[oI f (Iv e w) (λ_ _=>rfl) hz λy Y=>let ⟨z,a,b⟩:=s y Y;⟨z,a,λh _=>b h⟩,Rs.bind_ok,Iw O];rw[yo]
open PySem.SeqAt PySem.W
abbrev hdk:PV->YJ 0
 |.tup (.int _::_)=>a0 0
 |.tup (.str _::_)=>a0 1
 |.tup (.tup _::_)=>a0 2
 |_=>a7
open Classical in
abbrev zC(b:Bool)(m:Nat)(ks ys:x_ 0):jh (x_ 0):=if ks.length<1000000/\ks.length=ys.length/\OkN m ks/\(∀a∈ks.zip ys,∀c∈ks.zip ys,a.1=c.1->a.2=c.2) then a0 ((WN b<|eY Ww<|ks.zip ys).map (·.2)) else a7
abbrev fU(f:Fn)(b:Bool)(kb:Nat)(ys:x_ 0):x_ 0->x_ 0->PH->W_ 0
 |[],ks,h=>match zC b kb ks ys with
  |some zs=>.ok (.ref h.length) (h++[.lst zs])
  |none=>.bad
 |x::xs,ks,h=>(f [x] h).bind λk h1=>βX xs (ks++[k]) h1
abbrev Iy(C:MC)(X:Cx)(b9:List (d8×Obj))(σ:St)(φ:i_ d8)(H:Hp)(f:Fn)(b:Bool)(kb:Nat)(ys:x_ 0)(Q:VK)(a z:d8)(kS:d8)(e1:Nat)(ks:Xu 0)(e:Nat)(s':d7):Prop:=z<kS/\∃H' φ' h' zs ps,Xd (b9++[(kS,seqObj "list" ks.toArray e),(a,seqObj "list" #[] e1)]) σ H' s'/\φ<+:φ'/\L_ H'/\A3 h'/\aI zs ks/\γQ ps zs/\XY φ' H' (βX (Zx 0) ps h') Q
variable{its:Xu 0}{kb:Nat}
def Gh{k:Nat}{st:h_}{q:d8}{f:Fn}{σ:St}{us:i_ V}{Q:VK}(c:vn X)(D:Xe q fd pn)(G:ZE (Yt 1 f))(hj:j+2<=k)(ry:εf us)(rv:aI us its)(eA:A'=X.A.in1.in1)(fr:∀kS,a<=kS->X.s₀.heap.objs.size<=kS/\kS≠X.env.locals/\(∀x c,r_ 0=a0 c->c≠kS)/\(∀p∈X.pn++b9,p.1≠kS)/\kS∉X.fs)(kS:d8)(e1:Nat)(ks:Xu 0)(e:Nat)(s':d7)(y:d6)(hy:its[ks.length]?=a0 y)(hJ:αy ks e s'):
  wpAny (b8 X) A' (call (.ref q) [y]) (λv da=>da.heap.get? kS=a0 (seqObj "list" ks.toArray e)/\∀(h':e_) e',U9 kS da.heap h'->δi 0=a0 (seqObj "list" (ks++[v]).toArray e')->αy (ks++[v]) e' { da with heap:=h'}) (λ_ _=>False) s':=by
 subst eA;let⟨hz,H',φ',h',zs,ps,I,pp,tt,rh,rz,rp,po⟩:=hJ;let e7:ks.length<its.length:=(vz.mp hy).1;let ja:us.length=its.length:=rv.length;let i':ys.length=us.length:=ry.length;let gy:ys[ks.length]?=a0 (ys[ks.length]'⋯):=by simp
 let⟨u,hu,ru⟩:=ry.at gy;let⟨y',j7,su⟩:=rv.get hu;rw[hy]at j7;cases j7
 let hd:Zx 0=ys[ks.length]'⋯::ys.drop (ks.length+1):=drop_cons gy;rw[hd]at po;let ph:=c.K;let G':td CX0 j q fd pn (Yt 1 f):=by rw[ph];show G
 let D':βF q fd pn:=by rw[ph];show D
 let p5:Yt 1 f [u] H' (λv H2=>∃φ2 p h2,φ'<+:φ2/\Kp H' H2/\Xl φ2 H2 h2/\RV C φ2 H2 p v/\XY φ2 H2 (βX (ys.drop (ks.length+1)) (ps++[p]) h2) Q) E0:=⟨φ',h',[ys[ks.length]'⋯],rh,⟨ru.mono pp tt,trivial⟩,rfl,post.bind po⟩;let hl:([y]:Xu 0).length=pn.length:=G'.len _ _ _ _ p5;refine wpAny_call (WD (G'.run X.A.in1.in1 X.stack s' H' ⟨[y],[]⟩ [y] [u] _ E0 ((c.room.mono hj).in1.in1) I.env0.in1.in1 (by
  have:=D'.bd s' [y] I.kIn<|cA hl
  simpa using this) (.cons su .nil) p5) λr s2 hq=>?_)
 cases r with
 |error e=>exact hq.elim
 |ok fl=>
  cases fl with
  |next=>exact UK hq
  |brk=>exact UK hq
  |cont=>exact UK hq
  |ret v=>
   let⟨x2,H2,I2,ri,φ2,p2,h2,qe,oq,qx,nk,kl⟩:=I.after hq;let gk:=I2.pin (kS,seqObj "list" ks.toArray e)<|v9 _<|v9 _ wa;let ga:=I2.pin (a,seqObj "list" #[] e1)<|v9 _<|v9 _<|wb _ wa;refine⟨gk.1,λg e' sb j9=>?_⟩;let fk:=fr kS<|zi hz;let uo:a≠kS:=xj hz;let I3:Xd (b9++[(a,seqObj "list" #[] e1)]) σ H2 s2:=I2.pins_of λp hp=>(wg.mp hp).elim (λz=>I2.pin p<|v9 _<|xr _ z) λz=>by rw[wx.mp z];show ga
   let I4:=I3.turned (t':=s2.toks) (it:=kS) (h':=g) (λb' o' hb hq=>(sb.2 b' hb).trans hq) gk.2.1 fk.2.1 (.inr fk.1) fk.2.2.1 (λp hp=>by
    rcases wg.mp hp with hp|hp
    ·show fk.2.2.2.1 p (xr _ hp)
    ·rcases wg.mp hp with hp|hp
     ·show fk.2.2.2.1 p (v9 _ hp)
     ·rw[wx.mp hp];show uo)
   refine⟨hz,H2,φ2,h2,zs++[x2],ps++[p2],I4.pins_of λp hp=>?_,pp.trans qe,tt.trans oq,qx,rz.append<|.cons ri .nil,(rp.mono qe oq).snoc nk,?_⟩
   ·rcases wg.mp hp with hp|hp
    ·show I4.pin p (v9 _<|xr _ hp)
    ·rcases wu.mp hp with rfl|hp
     ·show⟨j9,gk.2.1,fk.2.1,fk.2.2.2.2,eK⟩
     ·rw[wx.mp hp];show I4.pin _<|v9 _<|v9 _ wa
   ·rw[wq];show kl
def sQ{ai:x_ 0}(L:ai.length=ys.length)(O:OkN kb ai)(S:∀a∈ai.zip ys,∀c∈ai.zip ys,a.1=c.1->a.2=c.2){p:v_ 0}(v:p.Perm (zo ys.length))(o:p.Pairwise (λi j=>(if b then ltN (ai.getD i .non) (ai.getD j .non) else ltN (ai.getD j .non) (ai.getD i .non))=false)):p.map (λi=>ys.getD i .non)=(WN b<|eY Ww<|ai.zip ys).map (·.2):=by
 letI z:=ai.zip ys;let l:z.length=ys.length:=by change(ai.zip ys).length=_;simp[L]
 let n:∀i∈p,i<ys.length:=λi H=>by simpa using v.mem_iff.mp H
 let g:∀i,i<ys.length->XD (.non,.non)=(ai.getD i .non,ys.getD i .non):=λi H=>by
  let w:i<ai.length:=⋯;let r:(ai.zip ys)[i]?=a0 (ai[i],ys[i]):=by rw[VN];show⟨by simp,by simp⟩
  change(ai.zip ys).getD i _=_
  simp[w,H,r]
 let P:(p.map λi=>XD (.non,.non)).Perm z:=FQ (by rw[l];show v);let m:z.map (·.1)=ai:=by
  change(ai.zip ys).map _=ai
  show List.map_fst_zip ⋯
 let s:∀y∈z,y.1∈ai:=λy Y=>by rw[<-m];show wo.mpr ⟨y,Y,rfl⟩
 let I:∀a∈z,∀c∈z,enc _=enc _->a=c:=λa A c C e=>by let E:=O.inj _ (s a A) _ (s c C) e;show Prod.ext E<|S a A c C E
 let u:p.map (λi=>ys.getD i .non)=(p.map λi=>XD (.non,.non)).map (·.2):=by rw[yg];show y1 λi H=>by change _=(XD _).2;rw[g i<|n i H]
 rw[u];let k:∀(R:Nat->Nat->Bool),p.Pairwise (λi j=>R i j=false)->(∀i j,i<ys.length->j<ys.length->R i j=ltN (z.getD j (.non,.non)).1 (XD _).1)->(p.map λi=>XD _).Pairwise (λx y=>ltN y.1 x.1=false):=λR w t=>by rw[Ud];show w.imp_of_mem λ{i j} H J h=>by rw[<-t i j (n i H) (n j J)];show h
 cases b with
 |false=>
  congr 1;refine yT _ I P (k (λi j=>ltN _ _) o λi j H J=>by rw[g i H,g j J])
 |true=>
  congr 1;let q:(p.map λi=>XD (.non,.non)).reverse=eY Ww z:=by refine yT _ I ((Uq _).trans P) ?_;rw[Ug,Ud];show o.imp_of_mem λ{i j} H J h=>by rw[g i<|n i H,g j<|n j J];show h
  change _=(eY _ z).reverse
  rw[<-q,List.reverse_reverse]
section
variable{α:Type}
def LH{key emb:α->PV}{xs:ZH 0}(h1:xs.length<1000000)(ok:OkN m (δk 0))(hc:∀a∈xs,∀c∈xs,key a=key c->emb a=emb c):∃os:ZH 0,os.Perm xs/\os.Pairwise (λa c=>ltN (key c) (key a)=false)/\zC false m (δk 0) (δl 0)=a0 (os.map emb):=by
 let ez:(δk 0).zip (δl 0)=xs.map λx=>(key x,emb x):=by
  induction xs with
  |nil=>rfl
  |cons x xs ih=>simp only[xg,Wf];rw[ih (by simp at h1;omega) ⟨ok.m3,λy hy=>ok.ky y (YI hy),λy hy=>ok.fk y (YI hy),λy hy z hz=>ok.lt y (YI hy) z (YI hz)⟩ (λa ha c ki=>hc a (YI ha) c (YI ki))]
 let k7:∀(x:α)(ys:ZH 0),pE Ww (key x,emb x) (ys.map λy=>(key y,emb y))=(δX ys).map λy=>(key y,emb y):=λx ys=>by
  induction ys with
  |nil=>rfl
  |cons y ys ih=>
   change(if ltN (key y) (key x)=true then(key y,emb y)::pE Ww (key x,emb x) (ys.map λy=>(key y,emb y)) else(key x,emb x)::(key y,emb y)::ys.map λy=>(key y,emb y))=(if ltN (key y) (key x)=true then y::δX ys else x::y::ys).map λy=>(key y,emb y)
   split
   ·rw[ih];rfl
   ·rfl
 let srt:∀ys:ZH 0,eY Ww (ys.map λy=>(key y,emb y))=(eY key ys).map λy=>(key y,emb y):=λys=>by
  induction ys with
  |nil=>rfl
  |cons y ys ih=>
   change pE Ww (key y,emb y) (eY Ww<|ys.map λy=>(key y,emb y))=_
   rw[ih,k7];rfl
 refine⟨eY key xs,iG key xs,gS key xs,?_⟩;unfold zC;rw[if_pos ⟨cA h1,by simp,ok,λa ha c ki e=>by rw[ez]at ha ki;let⟨x,hx,rfl⟩:=wo.mp ha;let⟨y,hy,rfl⟩:=wo.mp ki;show hc x hx y hy e⟩,ez,srt]
 change a0 (((eY key xs).map λy=>(key y,emb y)).map Prod.snd)=_
 rw[yg];rfl
def EJ{key emb:α->PV}{f:Fn}{m:Nat}{ys zs:x_ 0}{Q:PV->PH->Prop}:∀(r done:ZH 0)(h:PH),(∀d∈r,∀h(Q:PV->PH->Prop),(∀h',tx h'->Q (key d) h')->(f [emb d] h).W Q)->
  zC false m ((done++r).map key) ys=a0 zs->(∀h',tx h'->Q (.ref h'.length) (h'++[.lst zs]))->(fU f false m ys (r.map emb) (done.map key) h).W Q
 |[],done,h,_,hs,k=>by rw[Ua]at hs;simp only[List.map_nil,fU,hs,BS];show k h<|Ext.refl h
 |x::r,done,h,hf,hs,k=>by
  rw[xg];unfold fU;rw[rD];refine hf x wa h _ λh1 x1=>?_;let e:done.map key++[key x]=(done++[x]).map key:=by simp
  rw[e];show EJ r (done++[x]) h1 (λd hd=>hf d<|wb _ hd) (by rw[wy];show hs) λh' x2=>k h'<|x1.trans x2
end
def vV{κ β:Type}[XR 0]{k:κ}{p:β}:∀{xs:i_ (κ×β)}{j:Nat},(xs.map (·.1)).Nodup->xs[j]?=a0 (k,p)->xs.eraseIdx j=xs.filter λx=>decide (x.1≠k)
 |[],j,_,h=>by simp at h
 |x::r,0,n,h=>by
  simp only[List.getElem?_cons_zero,Option.some.injEq]at h;subst h;rw[xg,z7]at n;rw[List.eraseIdx_cons_zero,Wx];simp only[ne_eq,not_true_eq_false,decide_false,Ux,if_false]
  symm
  rw[List.filter_eq_self];show λy Y=>decide_eq_true λe=>n.1<|wo.mpr ⟨y,Y,e⟩
 |x::r,j+1,n,h=>by rw[xg,z7]at n;let H:¬ x.1=k:=λe=>n.1 (e▸wo.mpr ⟨(k,p),ye h,rfl⟩);rw[List.eraseIdx_cons_succ,vV n.2 h];simp[H]
def vW{α β:Type}(f:α->β):∀(l:ZH 0)(i),(l.map f).eraseIdx i=(l.eraseIdx i).map f
 |[],i=>by simp
 |x::r,0=>rfl
 |x::r,i+1=>by rw[xg,List.eraseIdx_cons_succ,List.eraseIdx_cons_succ,xg,vW f r i]
section
variable{K:Type}[DecidableEq K]{knd:γt K}
def AG{d:d8}{xs:i_ (K×d8×d6)}{k:K}{p:d8×d6}{Q:jh UU->d7->Prop}(U:knd.room A)(y:knd.is s.heap k a)(m:s.heap.DictOfH knd d xs)(P:YB k=a0 p)(hz:xs.length<=w9)(h:∀v,v.DictOfH knd d (xs.filter λx=>decide (x.1≠k))->U9 d s.heap v->Q (a0<|entryOfKey knd (k,p)) {s with heap:=v,toks:=s.toks+knd.draws k}):
  cu (Builtin.Dict.takeOut d<|.ref a) Q E s:=by
 let⟨o,S,t,O,c,H,z,i,n⟩:=m;unfold Builtin.Dict.takeOut
 try with_reducible refine Io ?_
 refine vy<|knd.pyHash U y ?_;refine vy<|wpAny_dictFind_heap U y O H z i n ?_ ?_
 ·intro N;rw[atKey_none_of_get N]at P;cases P
 ·intro j q J;let u:=atKey_of_get n J;rw[P]at u;cases u
  refine vy (z0 O H ?_);rw[entry_at z j,J];refine vy (wpAny_updateDictKeys (hz:=by let e:=size_of_entries z;omega) (hf:=by
   have:(S.eraseIdxIfInBounds j).size<=S.size:=by let⟨l⟩:=S;simp only[List.eraseIdxIfInBounds_toArray];show List.length_eraseIdx_le _ _
   show Vz this) O H (v8 (h _ ⟨_,_,t+1,yb _ O (Obj.isFreed_of_dict (Obj.data_mapDictKeys H _)),
   c.mapDictKeys _,Obj.data_mapDictKeys H _,?_,?_,?_⟩ (yj ..))))
  ·rw[Array.toList_eraseIdxIfInBounds,z,<-vV n J,vW]
  ·show λx X=>knd.keeps (i x (Uk.mp X).1) O H<|yj ..
  ·show(βq WA).nodup n
def vX(knd:γt K)(d a:d8):γ9 (Builtin.«dict.pop» ⟨[.ref d,.ref a],[]⟩) (λA R s=>knd.room A.in1/\∃k xs p,knd.is s.heap k a/\s.heap.DictOfH knd d xs/\xs.length<=w9/\YB k=a0 p/\
   ∀h',h'.DictOfH knd d (xs.filter λx=>decide (x.1≠k))->U9 d s.heap h'->R (.ok (.ret p.2)) {s with heap:=h',toks:=s.toks+knd.draws k}):=
 .of_wp λA R s w0=>by
  let⟨hu,k,xs,p,iz,hm,hz,hp,r⟩:=w0;unfold Builtin.«dict.pop»;refine vy ?_;unfold Builtin.Dict.keyAndDefault;refine vy (Wj hm.typeIs<|show W0 (pure (d,z8 a,a7)) _ _ s from v8 ?_)
  let kp:(keyPart<|z8 a).isSome=false:=rfl;simp only[kp,Ux,if_false];let⟨o,es,ep,ho,hc,hd,he,his,hn⟩:=id hm;let ne:es.isEmpty=false:=by
   let e1:=size_of_entries he;cases xs with
   |nil=>cases hp
   |cons x t=>
    rw[yw]at e1;have:es≠#[]:=λe=>by rw[e]at e1;cases e1
    simpa using this
  refine vy<|z0 ho hd ?_;rw[ne];refine vy<|v8 ?_;simp only[Ux,if_false];refine vy<|AG hu iz hm hp hz λh' q1 q2=>?_;simp only[Option.isNone_some,Ux,if_false];show vy<|UQ<|v8 ⟨_,rfl,r h' q1 q2⟩
end
section
variable{k:Nat}
abbrev vY:PV->x_ 0->PH->W_ 0:=λx ps h=>match x,ps with
 | .ref n,[y]=>if y.isKt=true then match aX h n with
   |some kvs=>match XS y with
    |some p=>.ok p (WY<|.dD<|sO kvs y)
    |none=>.bad
   |none=>.bad
  else .bad
 |_,_=>.bad
def HD.drop{ks:i_ (PV×d8×V)}{xs:i_ (PV×d8×d6)}(r:βQ 0)(R:xM ks xs)(y):∃k,S_ (sO kvs y) k/\xM k (xs.filter λx=>decide (x.1≠y)):=by
 induction r generalizing xs with
 |nil=>cases R;show⟨[],.nil,.nil⟩
 | @cons p q s S h t u=>
  cases R with
  | @cons _ z _ o Z T=>
   let⟨k,i,I⟩:=u T;let Q:=h.1;let v:=Z.1;unfold sO;rw[Wx,Wx];by_cases e:p.1=y
   ·let E:z.1=y:=by simp_all
    simp only[e,E,ne_eq];show⟨k,i,I⟩
   ·let E:¬ z.1=y:=λw=>e (by rw[Q,v];show w);simp only[e,E,ne_eq];show⟨q::k,.cons h i,.cons Z I⟩
open H in
def LI(c:vn X):MtR X "dict.pop" (rM C vY):=λN s σ H x Z v us Q I rx rs h=>by
 let⟨φ,h,p,ps,O,rp,i,P⟩:=h;unfold vY at P;split at P
 ·rename_i n y;let⟨a,rfl,A⟩:=rp;cases rx
  let⟨yv,rfl,M⟩:=i.one;let⟨yu,rfl,Y⟩:=vals1 rs;let⟨U,P⟩:=P.ite;split at P
  ·rename_i V ht;let⟨b,rfl⟩:=qI U M;cases Y
   let⟨⟨ks,Z,r,R,hz,hm,D⟩,mu,t⟩:=X9 O A ht;let u:=HD.val (a:=a) r R y;cases W:aK V y with
   |none=>rw[W]at P;show P.elim
   |some p2=>
    rw[W]at u P;cases E:atKey Z y with
    |none=>rw[E]at u;show u.elim
    |some z=>
     rw[E]at u;let⟨L,g,f⟩:=u;refine call_meetsIn PySem.F.slot_dict_pop D.typeIs PySem.F.entry_dict_pop (PySem.F.args_dict_pop_2 _ _) (vX (BO _ X.w) a b) ⟨c.room6,y,Z,z,δV U M,D,hz,E,λh' d hs=>?_⟩;let⟨S,T,r2⟩:=HD.drop r R y;let⟨o,G,J,j,B,h3,h4,_,h5⟩:=d;let l:S.length<=w9:=by
      let e1:=ze T;let e4:=ze r;let e5:=ze R;let e6:(sO V y).length<=V.length:=by unfold sO;show UZ _ _
      omega
     refine⟨L,YG<|dDO C.w a S,pW I mu hs ⟨o,j⟩ ⟨⟨l,hm,_,r2,o,G,J,j,B,h3,?_,h5⟩,⟨o,j⟩,?_⟩,g,?_⟩
     ·rw[h4,<-c.w];rfl
     ·rintro g1 g2 ⟨z1,z2,ws,z3,o',m,q,z4,z5⟩ e;show⟨z1,z2,ws,z3,o',m,q,e _ z4,z5⟩
     ·show P φ L _ wm (Kp.upd t) (O.write A t ⟨S,aJ,RKd.mono wm (Kp.upd t) T⟩) (f.mono wm<|Kp.upd t)
  ·show P.elim
 ·show P.elim
def OL:αx "dict" cF "dict.pop" vY:=λc=>⟨LI c,qJ c⟩
def Iz(t:YK n=a0 kvs)(k:y.isKt=true)(e:XS y=a0 p):vY (.ref n) [y] h=.ok p (WY<|.dD<|sO kvs y):=by unfold vY;simp[k,if_true,t,e]
end
structure ZA(z TI TO i1 i2:d8)(f1 f2:i_ d8):Prop where
 TIz:TI≠z
 TOz:TO≠z
 i1z:i1≠z
 i2z:i2≠z
 TITO:TI≠TO
 TIi1:TI≠i1
 TIi2:TI≠i2
 TOi1:TO≠i1
 TOi2:TO≠i2
 i12:i1≠i2
 a1:∀b∈f1,b≠z/\b≠TO/\b≠i2
 a2:∀b∈f2,b≠z/\b≠TO/\b≠i1
variable{P1 P2:Nat->d6->Prop}{S1 S2:Nat->e_->Prop}{f1 f2:i_ d8}{i1 i2:d8}{n1 n2:Nat}
def LJ{z:d8}{TI:d8}{TO:d8}(D:αM S1)(V:αN S2)(Z:YV f1 f2){k:Nat}{a b:d6}(hz:ZY TO .none)(K:XJ TI (.ref i1) (.ref i2))(W:XJ TO a b)(s1:S1 k s.heap)(s2:S2 k s.heap)(k1:k<n1)(k2:k<n2)(hQ:∀x y X tk,P1 k x->P2 k y->IsZip X z TI TO (rawInt ((s).heap.objs.size))->IsPair X TO x y->S1 (k+1) X->S2 (k+1) X->IsPair X ((s).heap.objs.size) x y->X.objs.size=((s).heap.objs.size)+1->
   (∀c o,c≠z->c≠TO->c≠i1->c≠i2->αz 0=a0 o->X.get? c=a0 o)->Q (.ref ((s).heap.objs.size)) {s with heap:=X,toks:=tk}):
  cu (Builtin.«zip.__next__» ⟨[.ref z],[]⟩) (λJ s'=>∃v,J=.done (.ret v)/\Q v s') E s:=by
 change W0 (field (.ref z) 2 >>= _) _ _ _
 refine vy<|Ui hz rfl (x:=.bool false) rfl ?_
 change W0 (field (.ref z) 3 >>= _) _ _ _
 refine vy<|Ui hz rfl (x:=.ref TI) rfl ?_;refine vy<|Ur K rfl ?_;refine vy ?_;unfold Builtin.SmallTypes.ownedTupleIsFree;refine vy<|Ui hz rfl (x:=.none) rfl<|v8 ?_;simp only[if_true];refine vy<|WE ?_;refine vy<|Ui hz rfl (x:=.ref TO) rfl ?_;refine vy (VL hz (by simp) λP q j=>?_)
 replace q:IsZip P z TI TO .ellipsis:=q
 let G:=j.extBut;refine vy ?_;simp only[List.zipIdx_cons,List.zipIdx_nil,List.forIn_cons,List.forIn_nil];refine vy<|vy<|wpAny_onRaise ?_;refine vy<|D.item k _ _ _ k1 (XM s1 λb H o e=>G b o (Z.a1 b H).1 e) λx N t2 px v i=>v8 ?_;let F:=i.extBut;let n:IsPair N TO a b:=F _ _ Z.TOi1<|G _ _ Z.TOz W;refine vy<|Ur n rfl ?_;refine vy<|wpAny_updateSeq_pair n λM O g=>?_
 replace O:IsPair M TO x b:=O
 let B:=g.extBut;refine vy<|UQ<|v8 ?_;refine vy<|vy<|wpAny_onRaise ?_;refine vy<|V.item k _ _ _ k2 (αb (αb (αb s2 λb H o e=>G b o (δm H).1 e) λb H o e=>F b o (δm H).2.2 e) λb H o e=>B b o (δm H).2.1 e) λy K t4 py n f=>v8 ?_;let P:=f.extBut;let m:IsPair K TO x b:=P _ _ Z.TOi2 O;refine vy<|Ur m rfl ?_;refine vy<|wpAny_updateSeq_pair m λh T d=>?_
 replace T:βr TO x y:=T
 let N:=d.extBut;refine vy<|UQ<|v8<|v8 ?_;refine vy<|Ur T rfl ?_;refine vy<|wpAny_newTuple ?_;let U:h.objs.size=((s).heap.objs.size):=by let q4:=f.1;let q3:=g.1;let q2:=i.1;let q1:=j.1;rw[d.1];show q4.trans<|q3.trans<|q2.trans q1
 let Y:IsZip h z TI TO .ellipsis:=N _ _ Z.TOz.symm<|P _ _ Z.i2z.symm<|B _ _ Z.TOz.symm<|F _ _ Z.i1z.symm q;let L:z<h.objs.size:=wt Y
 change X1 _
 refine vy ?_;unfold Builtin.SmallTypes.ownedTupleHandOut;let W:IsZip (h.push {cls:=.type "tuple",data:=.seq #[x,y]}) z TI TO .ellipsis:=W4 Y;refine vy (VL W (by simp) λJ p S=>?_)
 replace p:IsZip J z TI TO (rawInt h.objs.size):=p
 refine VL p (by simp) λt u r=>?_
 replace u:IsZip t z TI TO (rawInt h.objs.size):=u
 let M:∀c o,c≠z->h.get? c=a0 o->t.get? c=a0 o:=λc o C e=>r.extBut _ _ C<|S.extBut _ _ C<|v7 _ e;let l:IsPair t h.objs.size x y:=r.extBut _ _ (zr L)<|S.extBut _ _ (zr L)<|we _ rfl;let R:t.objs.size=h.objs.size+1:=by rw[r.1,S.1,zf]
 rw[U]at u l R;refine v8 ⟨_,rfl,?_⟩
 change Q (.ref h.objs.size) _
 rw[U];show hQ x y t _ px py u (M _ _ Z.TOz T) (XM (XM (XM (XM v λb H o e=>B b o (Z.a1 b H).2.1 e) λb H o e=>P b o (Z.a1 b H).2.2 e) λb H o e=>N b o (Z.a1 b H).2.1 e) λb H o e=>M b o (Z.a1 b H).1 e) (αb (αb n λb H o e=>N b o (δm H).2.1 e) λb H o e=>M b o (δm H).1 e) l R λc o C I c3 c4 e=>M c o C<|(λc o C I c3 c4 e=>N _ _ I<|P _ _ c4<|B _ _ I<|F _ _ c3<|G _ _ C e) c o C I c3 c4 e
def OM{z:d8}{TI:d8}{TO:d8}(Y:αM S1)(D:αN S2)(Z:YV f1 f2){k:Nat}{a b:d6}{Q:PySem.Fin->d7->Prop}(hz:ZY TO .none)(I:XJ TI (.ref i1) (.ref i2))(U:XJ TO a b)(s1:S1 k s.heap)(s2:S2 k s.heap)(hk:k=n1\/k<n1/\k=n2)(K:∀V e tk,(∀c o,c≠z->c≠TO->c≠i1->c≠i2->αz 0=a0 o->V.get? c=a0 o)->(∃o,V.get? e=a0 o/\o.cls=.type "StopIteration")->E (.ref e) {s with heap:=V,toks:=tk}):
  cu (Builtin.«zip.__next__» ⟨[.ref z],[]⟩) Q E s:=by
 change W0 (field (.ref z) 2 >>= _) _ _ _
 refine vy<|Ui hz rfl (x:=.bool false) rfl ?_
 change X1 _
 refine vy<|Ui hz rfl (x:=.ref TI) rfl ?_;refine vy<|Ur I rfl ?_
 change X1 _
 refine vy ?_;refine vy<|Ui hz rfl (x:=.none) rfl<|v8 ?_;refine vy<|WE ?_;refine vy<|Ui hz rfl (x:=.ref TO) rfl ?_;refine vy (VL hz (by simp) λl y p=>?_)
 replace y:IsZip l z TI TO .ellipsis:=y
 let m:=p.extBut;let g:=Y.frame _ _ _ s1 λb B o e=>m b o (Z.a1 b B).1 e;let N:=XM s2 λb B o e=>m b o (δm B).1 e;refine vy ?_;simp only[List.zipIdx_cons,List.zipIdx_nil,List.forIn_cons,List.forIn_nil];refine vy<|vy<|wpAny_onRaise ?_
 change X1 _
 rcases hk with rfl|⟨k1,rfl⟩
 ·refine vy (Y.done _ _ _ g λj e h R=>?_);let⟨P,O,C⟩:=R;let u:=h _ _ Z.i1z.symm y;let q:e≠z:=λx=>by subst x;rw[u]at O;cases O;simp at C
  show VL u (by simp) λr _ H=>K r e _ (λc o n _ X _ x=>H.extBut _ _ n<|h _ _ X<|m _ _ n x) ⟨P,H.extBut _ _ q O,C⟩
 ·refine vy (Y.item k _ _ _ k1 g λx j t2 px s1b h=>v8 ?_);let f:=h.extBut;let M:=XM N λb B o e=>f b o (δm B).2.2 e;let T:=Zn Z.TOi1<|m _ _ Z.TOz U;refine vy<|Ur T rfl ?_;refine vy<|wpAny_updateSeq_pair T λr d H=>?_;let W:=H.extBut;let L:=XM M λb B o e=>W b o (δm B).2.1 e;refine vy<|UQ<|v8 ?_;refine vy (vy<|wpAny_onRaise ?_)
  change X1 _
  refine vy<|D.done _ _ _ L λJ e S R=>?_;let⟨P,O,C⟩:=R;let t:=S _ _ Z.i2z.symm<|W _ _ Z.TOz.symm<|f _ _ Z.i1z.symm y;let q:e≠z:=λx=>by subst x;rw[t]at O;cases O;simp at C
  show VL t (by simp) λi _ v=>K i e _ (λc o n G X F x=>v.extBut _ _ n<|S _ _ F<|W _ _ G<|f _ _ X<|m _ _ n x) ⟨P,v.extBut _ _ q O,C⟩
def IA{z:d8}{TI:d8}{TO:d8}(v:A.handled=a7)(D:∀A,A.handled=a7->αM S1)(u:∀A,A.handled=a7->αN S2)(Z:YV f1 f2){k:Nat}{a b:d6}{Q:jh d6->d7->Prop}(hz:ZY TO .none)(T:XJ TI (.ref i1) (.ref i2))(O:XJ TO a b)(S:S1 k s.heap)(d:S2 k s.heap)(K:k<n1)(e:k<n2)(f:∀x y h t,P1 k x->P2 k y->IsZip h z TI TO (rawInt ((s).heap.objs.size))->βr TO x y->S1 (k+1) h->S2 (k+1) h->βr ((s).heap.objs.size) x y->h.objs.size=((s).heap.objs.size)+1->
   (∀c o,c≠z->c≠TO->c≠i1->c≠i2->αz 0=a0 o->h.get? c=a0 o)->Q (a0 (.ref ((s).heap.objs.size))) {s with heap:=h,toks:=t}):
  cu (pyNext<|.ref z) Q E s:=by
 let H:s.TypeIs (.ref z) "zip" := ⟨_,hz,rfl⟩;show vy (U3 (y0 H Wn
  (zd Wn H PySem.F.entry_zip_next
   (LJ (D A.in1 v) (u A.in1 v) Z hz T O S d K e λx y h t r q p n m l j i g=>v8 (f x y h t r q p n m l j i g)) (PySem.F.args_zip_next_1 _))))
def Ci{z:d8}{TI:d8}{TO:d8}(x:A.handled=a7)(D:∀A,A.handled=a7->αM S1)(v:∀A,A.handled=a7->αN S2)(Z:YV f1 f2){k:Nat}{a b:d6}{Q:jh d6->d7->Prop}(hz:ZY TO .none)(T:XJ TI (.ref i1) (.ref i2))(O:XJ TO a b)(S:S1 k s.heap)(p:S2 k s.heap)(H:k=n1\/k<n1/\k=n2)(u:∀h t,(∀c o,c≠z->c≠TO->c≠i1->c≠i2->αz 0=a0 o->h.get? c=a0 o)->Q a7 {s with heap:=h,toks:=t}):cu (pyNext<|.ref z) Q E s:=by
 let y:s.TypeIs (.ref z) "zip" := ⟨_,hz,rfl⟩;refine vy (U3 (y0 y Wn
  (zd Wn y PySem.F.entry_zip_next (OM (D A.in1 x) (v A.in1 x) Z hz T O S p H λh e t H r=>?_) (PySem.F.args_zip_next_1 _))))
 let⟨o,q,C⟩:=r;refine vy<|VF ⟨o,q,C⟩ isSubtype_stop ?_;show v8<|u _ _ H
def IB(z:A.handled=a7)(it l)(items)(i)(h:items[i]?=a7):V_ it [it,l] i (λ_ _=>False) (λj g=>j=i/\g.IsListIter it l i/\g.IsList l items) where
 live:=λ_ _ t=>let ⟨o,ho,_⟩:=t.2.1;⟨o,ho⟩
 frame:=λ_ _ _ t k=>⟨t.1,t.2.1.at λo e=>k it (by simp) o e,t.2.2.at λo e=>k l (by simp) o e⟩
 item:=λj s Q E J t y=>absurd J (by rw[t.1];show z6 _)
 done:=λs Q E t H=>wpAny_nextOf_list_end z t.2.1 t.2.2 h H
def LK(z:A.handled=a7)(it)(x)(t)(i)(h:x.cps[i]?=a7):V_ it [it] i (λ_ _=>False) (λj g=>j=i/\g.IsStrIter it "str_ascii_iterator" x t i) where
 live:=λ_ _ S=>let ⟨o,ho,_⟩:=S.2;⟨o,ho⟩
 frame:=λ_ _ _ S k=>⟨S.1,let ⟨o,e,r⟩:=S.2;⟨o,k it (by simp) o e,r⟩⟩
 item:=λj s Q E J S y=>absurd J (by rw[S.1];show z6 _)
 done:=λs Q E S H=>wpAny_nextOf_ascii_end z S.2 h H
@[reducible]noncomputable def LL(h:e_)(l1:d8):e_:=h.push {cls:=.type "list_iterator",data:=.fields #[.ref l1,.int 0 0]}
@[reducible]noncomputable def LM(h:e_)(l1:d8)(x:Str)(t:Tok):e_:=(LL h l1).push {cls:=.type "str_ascii_iterator",data:=.fields #[.str x t,.int 0 0]}
@[reducible]noncomputable def LN(h:e_)(l1:d8)(x:Str)(t:Tok):e_:=(LM h l1 x t).push {cls:=.type "tuple",data:=.seq #[.ref h.objs.size,.ref (LL h l1).objs.size]}
@[reducible]noncomputable def LO(h:e_)(l1:d8)(x:Str)(t:Tok):e_:=(LN h l1 x t).push {cls:=.type "tuple",data:=.seq #[.none,.none]}
@[reducible]noncomputable def Gi(h:e_)(l1:d8)(x:Str)(t:Tok):e_:=(LO h l1 x t).push {cls:=.type "zip",data:=.fields #[.none,.bool false,.bool false,.ref (LM h l1 x t).objs.size,.ref (LN h l1 x t).objs.size]}
set_option maxHeartbeats 0 in
def Cj(l1:d8)(xs:y_ 0)(x:Str)(t:Tok)(ha:x.cps.all (· < 128)=true):
  Meets (Builtin.«zip.__new__» ⟨[.type "zip",.ref l1,.str x t],[]⟩) (λ_ R s=>s.heap.IsList l1 xs/\R (.ok<|.ret<|.ref (LO s.heap l1 x t).objs.size) {s with heap:=Zy t}):=
 .of_wp λprog w A R s h=>by
  let⟨hp,g,d,tk,os⟩:=s;let⟨sk,h⟩:=h;let r6:=sub_zip;let rm:Heap.IsList (Shared.heap ⟨hp,g,d,tk,os⟩) l1 xs:=sk
  wp_walk using wpAny_pyIter_list rm,wpAny_pyIter_ascii ha
  show⟨_,rfl,h⟩
variable{l1:d8}
def LP{xs:y_ 0}{t:Tok}(l:s.heap.IsList l1 xs)(a:x.cps.all (· < 128)=true)(h:∀H,IsZip H (s.heap.objs.size+4) (s.heap.objs.size+2) (s.heap.objs.size+3) .none->IsPair H (s.heap.objs.size+2) (.ref ((s).heap.objs.size)) (.ref (s.heap.objs.size+1))->
   IsPair H (s.heap.objs.size+3) .none .none->H.IsListIter ((s).heap.objs.size) l1 0->H.IsStrIter (s.heap.objs.size+1) "str_ascii_iterator" x t 0->H.objs.size=((s).heap.objs.size)+5->
   (∀c o,αz 0=a0 o->H.get? c=a0 o)->Q (.ref (s.heap.objs.size+4)) {s with heap:=H}):
  cu (call (.type "zip") [.ref l1,.str x t]) Q E s:=by
 refine callType_new PySem.F.called_zip (by decide) (PySem.F.typeCall_zip_2 _ _) (PySem.F.newCall_zip_2 _ _) (λb=>PySem.F.args_object_init_3 b _ _) PySem.F.entry_zip_new
  (Cj l1 xs x t a) ⟨l,?_⟩
 let z:(LL _ l1).objs.size=((s).heap.objs.size)+1:=zf ..;let Z:(LM s.heap l1 x t).objs.size=((s).heap.objs.size)+2:=by rw[zf,z]
 let y:(LN s.heap l1 x t).objs.size=((s).heap.objs.size)+3:=by rw[zf,Z]
 let v:(LO s.heap l1 x t).objs.size=((s).heap.objs.size)+4:=by rw[zf,y]
 let g:(Zy t).get? (LO _ l1 x t).objs.size=a0 _:=XO rfl;let r:(Zy t).get? (LN _ l1 x t).objs.size=a0 _:=W4<|we _ rfl;let u:(Zy t).get? (LM _ l1 x t).objs.size=a0 _:=W4<|v7 _<|we _ rfl;let G:(Zy t).get? (LL _ l1).objs.size=a0 _:=W4<|v7 _<|v7 _<|we _ rfl;let q:(Gi _ l1 x t).get? ((s).heap.objs.size)=a0 _:=W4<|v7 _<|v7 _<|v7 _<|we _ rfl;rw[Z,y,v]at g;rw[z,Z]at u;rw[y]at r;rw[z]at G;rw[v];show⟨⟨_,g,rfl⟩,h _ g u r ⟨_,q,rfl,rfl⟩ ⟨_,G,rfl,rfl⟩ (by rw[zf,v]) λc o e=>W4<|v7 _<|v7 _<|v7 _<|v7 _ e⟩
abbrev ItZ(K:wc)(l:d8)(x:Str):It:=
 ⟨λi H=>(∃vs v,W9 l vs/\vs[i]?=a0 v)/\i<x.cps.size,
  λi H y H'=>∃t v c,H t=a7/\(∀vs,W9 l vs->vs[i]?=a0 v)/\x.cps[i]?=a0 c/\y=.ref t/\H'=t_ t (.tup [v,.str ⟨#[c]⟩]),
  λi H=>∃vs,W9 l vs/\(vs.length<=i\/x.cps.size<=i)⟩
def dF{h:e_}{b:d8}{o p:Obj}{m n:String}(H:Y6 0=a0 o)(hb:YO 0=a0 p)(C:o.cls=.type m)(c:p.cls=.type n)(N:m≠n):a≠b:=λe=>by
 subst e;rw[H]at hb;cases hb
 rw[C]at c;cases c
 show N rfl
def zD{h:e_}{z TI TO l:d8}{a b:d6}{t:Tok}{xs:y_ 0}(v:TI≠TO)(hz:IsZip h z TI TO .none)(I:βr TI (.ref i1) (.ref i2))(T:βr TO a b)(h1:h.IsListIter i1 l i)(u:h.IsStrIter i2 "str_ascii_iterator" x t i)(s:h.IsList l xs):
  YV [i1,l] [i2]/\l≠i1:=by
 let⟨k,w,L,_⟩:=s;let⟨o,e,c,d⟩:=h1;let⟨m,E,C,D⟩:=u;let N:=dF e hz c rfl (by decide);let Z:=dF E hz C rfl (by decide);let O:=dF T e rfl c (by decide);let y:=dF T E rfl C (by decide);let n:=dF e E c C (by decide);let p:=dF w hz L rfl (by decide);let q:=dF w T L rfl (by decide);let r:=dF w E L C (by decide);refine⟨⟨dF I hz rfl rfl<|by decide,dF T hz rfl rfl<|by decide,N,Z,v,dF I e rfl c<|by decide,dF I E rfl C<|by decide,O,y,n,λb H=>?_,λb H=>?_⟩,dF w e L c<|by decide⟩
 ·simp only[wu,TZ,or_false]at H;rcases H with rfl|rfl
  ·show⟨N,O.symm,n⟩
  ·show⟨p,q,r⟩
 ·simp only[wu,TZ,or_false]at H;subst H;show⟨Z,y.symm,n.symm⟩
def IC(l:d8)(x:Str)(t:Tok)(z y T r i2:d8)(mw:y≠T):
  αC (.Tuple elts x1 pos) (ItZ K l x) [z,y,T,r,i2] z (λi h=>IsZip h z y T .none/\βr y (.ref r) (.ref i2)/\(∃a b,βr T a b)/\h.IsListIter r l i/\h.IsStrIter i2 "str_ascii_iterator" x t i) where
 mem:=by simp
 obj:=λi h ⟨hz,m,⟨a,b,n⟩,⟨o1,e1,_,d1⟩,⟨o2,e2,_,d2⟩⟩ b E=>by
  simp only[wu,TZ,or_false]at E;rcases E with rfl|rfl|rfl|rfl|rfl
  ·show⟨_,hz,λv q=>by cases q⟩
  ·show⟨_,m,λv q=>by cases q⟩
  ·show⟨_,n,λv q=>by cases q⟩
  ·show⟨_,e1,λv q=>by rw[d1]at q;cases q⟩
  ·show⟨_,e2,λv q=>by rw[d2]at q;cases q⟩
 keep:=λi h h' ⟨hz,m,⟨a,b,n⟩,h1,⟨o2,e2,r2⟩⟩ k=>⟨k z (by simp) _ hz,k y (by simp) _ m,⟨a,b,k T (by simp) _ n⟩,h1.at λo e=>k r (by simp) o e,⟨o2,k i2 (by simp) _ e2,r2⟩⟩
 item:=by
  intro X hP hw hK k i b9 s σ H E I hf ⟨hz,m,⟨a,b,n⟩,h1,h2⟩ ⟨⟨vs,v,hq,hv⟩,hx⟩;subst hP hw hK;let⟨its,rv,p,hsz⟩:=I.list hq;let⟨u,hu,ru⟩:=rv.get hv;let hl:=p.isList;let⟨o1,e1,c1,d1⟩:=id h1;let⟨o2,e2,c2,d2⟩:=id h2;let⟨Z,l1⟩:=zD mw hz m n h1 h2 hl;refine IA (I.ok.hd k) (λA hA=>γX 0) (λA hA=>Draws.strAscii hA i2 x t) Z hz m n ⟨h1,hl⟩ h2 (by simpa using((vz.mp hu).1)) hx λxx yy h' tk px py a1 a2 a3 a4 a5 a6 kp=>⟨_,rfl,?_⟩
  let⟨cc,tu,qz,rfl⟩:=py;let r0:xx=u:=by simp_all
  subst r0;refine wpAny_letOwnedTupleGo_zip a1 λj5 hI same=>?_;let fr:H ((s).heap.objs.size)=a7:=I.hok.fresh<|wj _;let nt:∀{b:d8}{o:Obj},oa 0=a0 o->((s).heap.objs.size)≠b:=λe=>zr<|wt e;let sb:∀(b:d8)(o:Obj),b≠z->Xs 0=a0 o->j5.get? b=a0 o:=λb o E e=>(same.2 b E).trans e;let X:∀(b:d8)(o:Obj),b∉[z,T,r,i2]->oa 0=a0 o->j5.get? b=a0 o:=λb o E e=>sb b o (λq=>E<|by simp[q]) (kp b o (λq=>E<|by simp[q]) (λq=>E<|by simp[q]) (λq=>E<|by simp[q]) (λq=>E<|by simp[q]) e);let p:∀b,b∈[z,T,r,i2]->b∈[z,y,T,r,i2]:=λb E=>by simp only[wu,TZ,or_false]at E⊢;rcases E with q|q|q|q <;> simp[q]
  let je:∀b u,H b=a0 u->b∉[z,T,r,i2]:=λb u e q=>by have:=(hf b<|p b q).1;rw[this]at e;cases e
  let jt:∀b u,H b=a0 u->b≠((s).heap.objs.size):=λb u e q=>by rw[q,fr]at e;cases e
  refine⟨.ref<|(s).heap.objs.size,t_ ((s).heap.objs.size)<|.tup [v,.str ⟨#[cc]⟩],?_,rfl,⟨_,v,cc,fr,λys hy=>by rw[I.list_inj hy hq];show hv,qz,rfl,rfl⟩,⟨hI,sb _ _ Z.TIz<|kp _ _ Z.TIz mw Z.TIi1 Z.TIi2 m,⟨_,_,sb _ _ Z.TOz a2⟩,a3.1.at λo e=>sb _ _ Z.i1z e,?_⟩,λb E=>?_⟩
  ·refine Inv.step (s:=s) (h':=j5) (H:=H) (g':=s.gens) (d':=s.drawn) (t':=tk) (ch:=[z,T,r,i2]) I (λb E=>?_) (λb o _ _ k e _=>δ5 e) (λb o _ _ k e _=>⟨o.slots,δ5 e⟩) (λb o k e n=>?_)
    (λb o k e=>⟨o,δ5 e⟩) (λb xs e=>by rw[aF<|jt _ _ e];show e) (λb o u e=>by rw[aF<|jt _ _ e];show e) (λb ps e=>⟨#[],by rw[aF<|jt _ _ e,e];simp⟩) (λm hm=>?_) (λb u e=>?_) I.bare
   ·let⟨f0,f1,f2,f3,f4,f5⟩:=hf b<|p b E;show⟨f3,f1,f4,f5⟩
   ·rw[aF<|xj<|wt e];show n
   ·let⟨o,es,ep,ho,r⟩:=hm;show⟨o,es,ep,X _ o (λq=>(hf _<|p _ q).2.1 rfl) ho,r⟩
   ·by_cases E:b=((s).heap.objs.size)
    ·subst E;rw[aJ]at e;cases e
     show⟨by change 2<=w9;rw[kT];decide,[xx,.str ⟨#[cc]⟩ tu],.cons ru<|.cons ⟨_,rfl⟩ .nil,_,(sb _ _ (nt hz) a5),rfl,⟨_,rfl⟩,rfl⟩
    ·rw[aF E]at e;refine(αP u e).stay (λc v k q=>X c v ?_ q) (λc q=>by rw[aF<|jt _ _ q];show q) λc xs q=>by rw[aF<|jt _ _ q];show q
     rcases k with q|q
     ·rw[q];show je b u e
     ·show je c _ q
  ·let⟨o,e,r⟩:=a4;show⟨o,sb _ _ Z.i2z e,r⟩
  ·have:b≠((s).heap.objs.size):=by
    simp only[wu,TZ,or_false]at E;rcases E with rfl|rfl|rfl|rfl|rfl
    ·show(nt hz).symm
    ·show(nt m).symm
    ·show(nt n).symm
    ·show(nt e1).symm
    ·show(nt e2).symm
   rw[aF this];show(hf b E).1
 done:=by
  intro X hP hw hK k i b9 s σ H E I hf ⟨hz,m,⟨a,b,n⟩,h1,h2⟩ ⟨vs,hq,hd⟩;subst hP hw hK;let⟨its,rv,p,hsz⟩:=I.list hq;let hlen:=rv.length;let hl:=p.isList;let⟨Z,l1⟩:=zD mw hz m n h1 h2 hl;let p:∀b,b∈[z,T,r,i2]->b∈[z,y,T,r,i2]:=λb E=>by simp only[wu,TZ,or_false]at E⊢;rcases E with q|q|q|q <;> simp[q]
  let je:∀b u,H b=a0 u->b∉[z,T,r,i2]:=λb u e q=>by have:=(hf b<|p b q).1;rw[this]at e;cases e
  let fin:∀(h':e_)(tk:Nat),(∀c o,c≠z->c≠T->c≠r->c≠i2->αz 0=a0 o->h'.get? c=a0 o)->q_ {s with heap:=h',toks:=tk}:=λh' tk kp=>by
   let X:∀(b:d8)(o:Obj),b∉[z,T,r,i2]->oa 0=a0 o->Xs 0=a0 o:=λb o E e=>kp b o (λq=>E<|by simp[q]) (λq=>E<|by simp[q]) (λq=>E<|by simp[q]) (λq=>E<|by simp[q]) e;refine Inv.step (s:=s) (h':=h') (H:=H) (g':=s.gens) (d':=s.drawn) (t':=tk) (ch:=[z,T,r,i2]) I (λb E=>?_) (λb o _ _ k e _=>δ5 e) (λb o _ _ k e _=>⟨o.slots,δ5 e⟩) (λb o k e n=>n)
    (λb o k e=>⟨o,δ5 e⟩) (λb xs e=>e) (λb o u e=>e) (λb ps e=>⟨#[],by rw[e];simp⟩) (λm hm=>?_) (λb u e=>?_) I.bare
   ·let⟨f0,f1,f2,f3,f4,f5⟩:=hf b<|p b E;show⟨f3,f1,f4,f5⟩
   ·let⟨o,es,ep,ho,r⟩:=hm;show⟨o,es,ep,X _ o (λq=>(hf _<|p _ q).2.1 rfl) ho,r⟩
   ·refine(αP u e).stay (λc v k q=>X c v ?_ q) (λ_ q=>q) λ_ _ q=>q;rcases k with q|q
    ·rw[q];show je b u e
    ·show je c _ q
  by_cases hi:i<its.length
  ·show Ci (I.ok.hd k) (λA hA=>γX 0) (λA hA=>LK hA i2 x t i<|zw (by rcases hd with q|q;omega;show q)) Z hz m n ⟨h1,hl⟩ ⟨rfl,h2⟩ (.inr ⟨cA hi,rfl⟩) λh' tk kp=>⟨rfl,fin h' tk kp⟩
  ·show Ci (I.ok.hd k) (λA hA=>IB hA r l its.toArray i (by simp;omega)) (λA hA=>Draws.strAscii hA i2 x t) Z hz m n ⟨rfl,h1,hl⟩ h2 (.inl rfl) λh' tk kp=>⟨rfl,fin h' tk kp⟩
 self:=λ_ _ _ _ _ ⟨hz,_⟩ h=>wpAny_pyIter_zip hz h
def boot_zip:Vv "zip" = a0 (.type "zip"):=by rfl
abbrev Tj(X:Cx)(ta:TA):TI:=λσ H R=>ta σ H λvs H1=>∃l xs x,vs=[.ref l,.str x]/\SqL X.K H1 l xs/\(x.cps.all λc=>decide (c<128))=true/\R (ItZ X.K l x) H1
variable{tp:Pos}
def ON{a b:g_}{ta:TA}{p:Pos}(g:Yu "zip")(M:X.mg "zip" = a7)(k:PA X [a,b] ta)(hs:xq [a,b] X.env=[(false,eval a X.env),(false,eval b X.env)]:=by rfl)(z:xq [b] X.env=[(false,eval b X.env)]:=by rfl):
  PI X (.Tuple elts x1 tp) (.Call (.Name "zip" p) [a,b] [] pos) (Tj X ta):=by
 refine λi s Z H R I h=>Call_ (jF I g M boot_zip<|UA (thn (k pos i s Z H _ I h) λO S ⟨N,v,y,d,j⟩=>?_) (by rw[hs,z]) (by rw[z];rfl));let⟨l,J,x,e,Q,c,q⟩:=j;subst e;cases d with
 |cons r w=>
  cases w with
  |cons f w=>
   cases w
   cases r
   let⟨t,rfl⟩:=f;let⟨T,U,P,V⟩:=y.list Q;refine LP P.isList c λW A u o n m Y K=>?_;refine wpAny_pyIter_zip A <|⟨S.heap.objs.size+4,[S.heap.objs.size+4,S.heap.objs.size+2,S.heap.objs.size+3,S.heap.objs.size,S.heap.objs.size+1],_,_,v,rfl,y.kept K,IC l x t _ _ _ _ _<|xj<|Vp _,⟨A,u,⟨_,_,o⟩,n,m⟩,λb B=>?_,q⟩;let L:S.heap.objs.size<=b:=by
    simp[wu,TZ,or_false]at B;rcases B with e|e|e|e|e
    all_goals rw[e]
    all_goals first|exact wj _|exact Va _ _
   show y.fpOk L<|y.hok.fresh L
abbrev AH(xs:x_ 0)(x:Str):x_ 0:=List.zipWith (λp c=>PV.tup [p,.str ⟨#[c]⟩]) xs x.cps.toList
abbrev OO:x_ 0->PH->Rs Wk:=λps h=>match ps with
 | [.ref n,.str x]=>if (x.cps.all fun c=>decide (c < 128))=true then (match Xr n with
   |some xs=>.ok ⟨AH xs x,tG n xs⟩ h
   |none=>.bad) else .bad
 |_=>.bad
abbrev ID(ms:Ma):Mi:=λδ h=>(Xi h).bind OO
def IE(xs)(x):(AH xs x).length=min xs.length x.cps.size:=by simp[AH]
open H in
def Rk{k:Nat}{x y:g_}{p:Pos}(L:Xo [x,y] ms)(hb:("zip" : Str)∈C.bs:=by decide)(g:Yu "zip" := by rfl)(hs:xq [x,y] X.env=[(false,γr 0),(false,α3 0)]:=by rfl)(f:xq [y] X.env=[(false,α3 0)]:=by rfl):
  SI C k X (.Tuple elts x1 tp) (.Call (.Name "zip" p) [x,y] [] pos) (ID ms):=λc=>
 (ON g (c.bn _ hb) (L c) hs f).imp λσ H R h=>by
  let⟨φ,δ,h,B,D,p⟩:=h;refine⟨φ,δ,h,B,D,(postA.bindI p).imp ?_⟩;rintro vs Z ⟨b,P,M,p1,t1,r,V,q⟩;unfold OO at q;split at q
  ·rename_i n x;let⟨v,w,rfl,⟨a,rfl,A⟩,ry⟩:=V.two;cases ry
   split at q
   ·rename_i m;cases e:aH M n with
    |none=>rw[e]at q;show q.elim
    |some P=>
     rw[e]at q;let⟨a2,us,z,Q,ra⟩:=bU r e;rw[A]at z;cases z;rw[<-c.K]at Q;refine⟨a,us,x,rfl,Q,m,q b Z _ wm (Kp.refl Z) r λφ2 H2 W G t2 o g i=>?_⟩;let g:(match aH W n with|some d=>PV.beqs d P|none=>false)=true:=g
     cases E:aH W n with
     |none=>rw[E]at g;cases g
     |some d=>
      rw[E]at g;let Y:=PV.beqs_eq g;subst Y;let⟨a3,u,s,S,U⟩:=bU o E;rw[dW G A]at s;cases s;rw[<-c.K]at S;let hl:=U.length
      change _/\((AH d x).length<=i->_)
      rw[IE];refine⟨λI=>?_,λI=>⟨u,S,⋯⟩⟩;refine⟨⟨⟨u,u[i],S,by simp⟩,⋯⟩,λy H' yl=>?_⟩;let⟨t,v,l,T,J,O,rfl,rfl⟩:=yl;let⟨F,N,rp⟩:=U.get<|J u S;refine⟨⟨.tup [F,.str ⟨#[l]⟩],?_,?_⟩,Kp.new T,o.aside T⟩
      ·let j:x.cps.toList[i]?=a0 l:=by simpa using O
       change _[i]?=_
       unfold AH;rw[List.getElem?_zipWith,N,j]
      ·show⟨t,[v,.str ⟨#[l]⟩],rfl,.inl<|.inl aJ,rp.mono wm<|Kp.new T,rfl,trivial⟩
   ·show q.elim
  ·show q.elim
abbrev IF(f:d6):Prop:=f=.none\/∃T:Nat,f=rawInt T
@[reducible]noncomputable def sR(h:e_)(it d:d8)(i n ep:Nat)(f0:d6)(f1:Bool)(ok ov:d6):Prop:=h.get? it=a0 {cls:=.type "dict_itemiterator",data:=.fields #[f0,.bool f1,.ref d,.int i 0,.int n 0,.int ep 0,ok,ov]}
variable{f0:d6}
section
variable{v:d8}{es:Y8 0}{ok:d6}{f1:Bool}
def IG{Q:jh Obj->d7->Prop}(h:Q (YH 0) s):cu (loadIfAlive a) Q E s:=λz p _=>by show h
def vZ(h:sR s.heap it dc i n ep f0 f1 ok ov):s.TypeIs (.ref it) "dict_itemiterator" := ⟨_,h,rfl⟩
def DK{Q:jh d6->d7->Prop}(l:αI ov)(h1:W6 0=a0 oc)(u:oc.data=.dict es ep)(L:i<es.size)(hf:IF f0)(q:∀c r W O N,IF r->sR c it dc (i+1) es.size ep r W O N->c.get? ((s).heap.objs.size)=a0 {cls:=.type "tuple",data:=.seq #[es[i].key,es[i].val]}->
   (∀(b:d8)(o:Obj),b≠it->oa 0=a0 o->c.get? b=a0 o)->Q (a0 (.ref ((s).heap.objs.size))) {s with heap:=c}):cu (pyNext (.ref it)) Q E s:=by
 let d:=vZ l;unfold pyNext;refine vy<|U3<|y0 (name:=xm "__next__") d yr<|zd yr d Vl ?_<|Vf _;refine vy<|v8<|vy<|vy ?_;refine vy<|zm d<|v8 ?_;refine vy<|VO l rfl ?_;refine vy<|v8<|vy<|z0 h1 u ?_;rw[if_neg<|show ¬ _ by simp];refine vy<|v8<|vy<|UM h1 u ?_;rw[if_neg<|show ¬ _ by simp];refine v8 ?_;simp only[show ¬ ((i:Int)<0) by omega,if_false,Int.toNat_natCast,UN L];refine vy ?_;refine vy<|zm d<|v8 ?_;refine vy (Vc d<|show W0 (setField (.ref it) 3 (rawInt<|(i:Int)+1) >>= _) _ _ s from vy (Vh l rfl (by simp) ?_))
 let y:sR (A1 (Uj (·.setIfInBounds 3 (rawInt<|(i:Int)+1)))) it dc (i+1) es.size ep f0 f1 ok ov:=by
  change(A1 _).get? it=_
  rw[yb _ l<|Vk<|U5 rfl _];simp[Uj,rawInt]
 let J:∀(b:d8)(o:Obj),b≠it->oa 0=a0 o->(A1 (Uj (·.setIfInBounds 3 (rawInt<|(i:Int)+1)))).get? b=a0 o:=λb o h e=>by rw[(yj ..).2 b h];show e
 let X:(A1 (Uj (·.setIfInBounds 3 (rawInt<|(i:Int)+1)))).objs.size=((s).heap.objs.size):=(yj ..).1;generalize s.heap.update it (Uj (·.setIfInBounds 3 (rawInt<|(i:Int)+1)))=hA at y J X;let Y:({s with heap:=hA}:d7).TypeIs (.ref it) "dict_itemiterator" := vZ y;refine vy<|Io<|vy<|Vc Y<|vy<|Vc Y ?_;unfold Builtin.Dict_items.pairFromOwner;simp only[newTuple];refine vy (xy ?_<|by size_fits);let I:sR (hA.push {cls:=.type "tuple",data:=.seq #[es[i].key,es[i].val]}) it dc (i+1) es.size ep f0 f1 ok ov:=W4 y;let G:(hA.push {cls:=.type "tuple",data:=.seq #[es[i].key,es[i].val]}).get? hA.objs.size=a0 {cls:=.type "tuple",data:=.seq #[es[i].key,es[i].val]}:=XO rfl;let p:∀(b:d8)(o:Obj),b≠it->oa 0=a0 o->(hA.push {cls:=.type "tuple",data:=.seq #[es[i].key,es[i].val]}).get? b=a0 o:=λb o h e=>W4<|J b o h e;rw[X]at G;let n:((s).heap.objs.size)≠it:=zr<|wt l;generalize hA.push {cls:=.type "tuple",data:=.seq #[es[i].key,es[i].val]}=hB at I G p;let eA:(z8 ({s with heap:=hA}:d7).heap.objs.size)=.ref ((s).heap.objs.size):=by rw[<-X]
 simp only[eA];let t:∀{h1:e_}{S:y_ 0}{j:Nat}{x:d6}{M:Type}{f:Unit->Sem M}{R:(M->d7->Prop)}{v:(d6->d7->Prop)},h1.get? it=a0 {cls:=.type "dict_itemiterator",data:=.fields S}->j<S.size->
   (∀u:e_,u.get? it=a0 {cls:=.type "dict_itemiterator",data:=.fields (S.setIfInBounds j x)}->(∀(b:d8),b≠it->u.get? b=h1.get? b)->H_ (f ()) R v {s with heap:=u})->
   H_ (setField (.ref it) j x >>= f) R v {s with heap:=h1}:=λ{h1 S j x M f R v} g hj k=>by
  refine vy<|Vh (s:={s with heap:=h1}) g rfl hj ?_;refine k _ ?_ λb h=>(yj ..).2 b h;rw[yb _ g<|Vk<|U5 rfl _];simp[Uj]
 let m:∀v:(d6->d7->Prop),H_ (WB<|.ref it) (λ_ D=>∃z V,D={s with heap:=z}/\sR z it dc (i+1) es.size ep f0 V ok ov/\∀b,b≠it->z.get? b=hB.get? b) v {s with heap:=hB}:=λv=>by
  unfold WB;refine vy<|Ui (s:={s with heap:=hB}) I rfl (x:=f0) rfl ?_;rcases hf with rfl|⟨T,rfl⟩
  ·show v8 ⟨hB,f1,rfl,I,λ_ _=>rfl⟩
  ·change W0 (loadIfAlive ((T:Int).toNat) >>= _) _ _ _
   refine vy<|IG ?_;cases hB.get? ((T:Int).toNat) with
   |none=>exact v8 ⟨hB,f1,rfl,I,λ_ _=>rfl⟩
   |some o=>
    refine vy<|Ui (s:={s with heap:=hB}) I rfl (x:=.bool f1) rfl ?_;cases f1 with
    |false=>rw[if_pos<|by decide];refine t I (by simp) λP U a=>?_;show v8 ⟨P,true,rfl,by change P.get? it=_;rw[U];simp,a⟩
    |true=>rw[if_neg<|by decide];show v8 ⟨hB,true,rfl,I,λ_ _=>rfl⟩
 refine vy<|U8 (m _) (λb D h=>?_) λ_ _ e=>e;let⟨z,V,rfl,H,Z⟩:=h;cases b with
 |true=>
  simp only[if_true];refine vy<|Ui (s:={s with heap:=z}) H rfl (x:=ok) rfl (vy<|Ui (s:={s with heap:=z}) H rfl (x:=ov) rfl ?_);refine t H (by simp) λP U a=>?_;refine t U (by simp) λh4 g4 C=>?_;refine t g4 (by simp) λh5 g5 B=>?_;refine t g5 (by simp) λK g6 L=>?_;refine vy (UQ<|v8<|v8 ⟨_,rfl,v8<|q K (rawInt<|(s).heap.objs.size) false es[i].key es[i].val (.inr ⟨_,rfl⟩) (by rw[<-X];change K.get? it=_;rw[g6];simp) ?_ λb o h e=>?_⟩)
  ·rw[L _ n,B _ n,C _ n,a _ n,Z _ n];show G
  ·rw[L _ h,B _ h,C _ h,a _ h,Z _ h];show p b o h e
 |false=>
  simp only[Ux,if_false];refine v8<|v8 ⟨_,rfl,v8<|q z f0 V ok ov hf H ?_ λb o h e=>?_⟩
  ·rw[Z _ n];show G
  ·rw[Z _ h];show p b o h e
def DL{Q:jh d6->d7->Prop}(y:A.handled=a7)(I:αI ov)(h1:W6 0=a0 oc)(z:oc.data=.dict es ep)(g:es.size<=i)(q:∀H,YN H->Q a7 {s with heap:=H}):cu (pyNext<|.ref it) Q E s:=by
 let h:=vZ I;refine vy<|U3<|y0 h yr<|zd yr h Vl ?_<|Vf _;refine vy<|v8<|vy<|vy ?_;refine vy<|zm h<|v8 ?_;refine vy<|VO I rfl ?_
 change W0 (if _=true then _ else _) _ _ s
 refine vy<|v8<|vy<|z0 h1 z ?_;rw[if_neg<|show ¬ _ by simp];refine vy<|v8<|vy<|UM h1 z ?_;rw[if_neg<|show ¬ _ by simp];refine v8 ?_;simp only[if_false,Int.toNat_natCast,zw g];refine vy ?_;refine vy<|zm h<|v8 ?_;refine(show W0 (setField (.ref it) 2 .none >>= _) _ _ s from vy (Vh I rfl (by simp) ?_))
 refine(show W0 (newExc _ [] >>= _) _ _ _ from vy ?_);simp only[newExc,newTuple]
 refine vy (xy (vy<|wpAny_of_eq (a:=zc) rfl<|xy ?_<|by size_fits)<|by size_fits);refine vy<|wpAny_handled ?_;rw[show A.in1.handled=a7 from y]
 refine vy<|v8<|wpAny_throw ?_;refine vy<|VF ⟨_,XO rfl,rfl⟩ isSubtype_stop ?_;show v8<|q _<|((yj ..).extBut.push _).push _
end
structure Prs(es:Array UU)(lo:d8)(h:e_)(as:i_ d8):Prop where
 above:∀a∈as,lo<a
 rise:as.Pairwise (· < ·)
 pairs:∀(j:Nat) a,as[j]?=some a->∃e,es[j]?=some e/\h.get? a=some {cls:=.type "tuple",data:=.seq #[e.key,e.val]}
variable{I:d8}{h₁:e_}
def IH{es:Y8 0}{S d:d8}(hh:A.handled=a7)(q:S<I)(P:d≠S)(V:d≠I)(v:oc.data=.dict es ep)(hn:es.size<=w9)(g:d6)(hR:∀y T C c z,(∀b o,b≠S->b≠I->h₁.get? b=a0 o->y.get? b=a0 o)->y.get? S=a0 {cls:=.type "list",dict:=a7,data:=.seq C c,slots:=#[]}->z.length=es.size->δn I y z->
   C.toList=z.map z8->R (.ok (.ret g)) {s with heap:=y,toks:=T}):
  ∀(k i:Nat)(h:e_)(T c:Nat)(C)(z:i_ d8)(f:d6)(X:Bool)(Q O:d6),es.size-i=k->i<=es.size->IF f->sR h I d i es.size ep f X Q O->h.get? d=a0 oc->(∀b o,b≠S->b≠I->h₁.get? b=a0 o->YO 0=a0 o)->
   h.get? S=a0 {cls:=.type "list",dict:=a7,data:=.seq C c,slots:=#[]}->C.toList=z.map z8->z.length=i->δn I h z->
   codeAny (Q_ w) A (.builtin "list.extend.loop" ⟨[.ref S,.ref I,g],[]⟩) R {s with heap:=h,toks:=T}:=by
 let n:=xj q;intro k
 induction k with
 |zero=>
  intro i h T c C z f X Q O hk hi W t D p Z H l G;refine U7 PySem.F.entry_extend_loop ?_;rw[UG Vi _]
  change A0 _ _ _ _
  refine vy<|DL hh t D v ⋯ λy M=>?_;refine v8<|hR y T C c z (λb o x v e=>M b o v<|p b o x v e) (M S _ n Z) ⋯ ⟨G.above,G.rise,λj a J=>?_⟩ H;let⟨e,Y,E⟩:=G.pairs j a J;show⟨e,Y,M a _ (zr<|G.above a<|ye J) E⟩
 |succ k ih=>
  intro i h T c C z f X Q O hk hi W t D p Z H l G;let L:i<es.size:=⋯;let N:C.size=i:=by rw[<-Array.length_toList,H,wd,l]
  let Q:=wt t;let O:=wt Z;refine U7 PySem.F.entry_extend_loop ?_
  change A0 _ _ _ _
  refine vy<|DK t D v L W λy g0 g1 sr u6 W m X K=>?_;dsimp only at X K⊢;let r:=K S _ n Z;let U:∀b o,b≠S->y.get? b=a0 o->(y.update S (zy (·.push (z8 h.objs.size)))).get? b=a0 o:=λb o B e=>(Yz<|zj B).trans e
  change A0 (Y1 (·.push (z8 _)) >>= _) _ _ _
  refine vy <|U6 r rfl (v8 ⟨UP Vi _,ih (i+1) _ T _ (C.push (z8 _)) (z++[h.objs.size]) g0 g1 sr u6 ⋯ L W (U I _ (zj n) m) (U d _ P (K d _ V D))
   (λb o x v e=>U b o x (K b o v (p b o x v e))) (yb _ r rfl) (by rw[Array.toList_push,H,zv];rfl) (by rw[wq,l];rfl) ⟨?_,?_,?_⟩⟩) (by rw[N];omega) (by change(C.push (z8 _)).size<=w9+1;rw[Array.size_push];omega)
  ·intro a u;rcases wg.mp u with u|u
   ·show G.above a u
   ·rw[wx.mp u];show Q
  ·refine w8.mpr ⟨G.rise,UE _ _,λa u b B=>?_⟩;rw[wx.mp B];let⟨j,J⟩:=List.mem_iff_getElem?.mp u;let⟨e,_,E⟩:=G.pairs j a J;show wt E
  ·intro j b J;rcases Nat.lt_trichotomy j z.length with x|x|x
   ·rw[xc x]at J;let⟨e,Y,E⟩:=G.pairs j b J;let B:=G.above b<|ye J;show⟨e,Y,U b _ (zr<|Nat.lt_trans q B)<|K b _ (zr B) E⟩
   ·subst x;let B:h.objs.size=b:=by simpa using J
    subst B;show⟨es[i],by rw[l];simp[L],U _ _ (zr O) X⟩
   ·let N:(z++[h.objs.size])[j]?=a7:=UY (by rw[wq,List.length_singleton];omega);rw[N]at J;cases J
open PySem.W
variable{as:i_ d8}
def Prs.low{es:Y8 0}{lo p7:d8}{h:e_}(g:δn lo h as)(l:p7<=lo):δn p7 h as:=⟨λa H=>UI l<|g.above a H,g.rise,g.pairs⟩
def DM{es:Y8 0}{r:d8}{d:d8}(hh:A.handled=a7)(hv:s.heap.IsItemsView r d)(hD:s.heap.get? d=a0 oc)(h2:oc.data=.dict es ep)(S:d8)(uw:S≠r)(o4:d≠S)(res:d6)(c₀:Nat)(hS:βH 0=a0 {cls:=.type "list",data:=.seq #[] c₀})(hR:∀h' tk acc c as,(∀b o,b≠S->oa 0=a0 o->Xs 0=a0 o)->h'.get? S=a0 {cls:=.type "list",dict:=a7,data:=.seq acc c,slots:=#[]}->as.length=es.size->δn ((s).heap.objs.size) h' as->
   acc.toList=as.map z8->R (.ok (.ret res)) {s with heap:=h',toks:=tk})(hn:es.size<=w9):
  H_ (VC (.ref S) (.ref r) res)
   (λfin s'=>match fin with|.done f=>R (.ok f) s'|.again c'=>c'.quiet=true/\codeAny (Q_ w) A c' R s') (λe s'=>R (.error e) s') s:=by
 let o8:S<((s).heap.objs.size):=wt hS;let t5:d<((s).heap.objs.size):=wt hD;let key:∀(h:e_)(c₁ tk:Nat),(∀b o,b≠S->(s.heap.push {cls:=.type "dict_itemiterator",data:=.fields #[.none,.bool false,.ref d,.int 0 0,.int es.size 0,.int ep 0,.none,.none]}).get? b=a0 o->YO 0=a0 o)->
   h.get? S=a0 {cls:=.type "list",data:=.seq #[] c₁}->codeAny (Q_ w) A (.builtin "list.extend.loop" ⟨[.ref S,.ref<|(s).heap.objs.size,res],[]⟩) R {s with heap:=h,toks:=tk}:=by
  intro h c₁ tk hk j4;let hI:=hk ((s).heap.objs.size) _ (zr o8)<|we _ rfl;show IH (es:=es) (ep:=ep) (oc:=oc) (s:=s) (h₁:=s.heap) hh o8 o4 (xj t5) h2 hn res (λh' qy acc c as e9 qt hl hG ei=>hR h' qy acc c as (λb o hb e=>e9 b o hb (xj<|wt e) e) qt hl hG ei)
   es.size 0 h tk c₁ #[] [] .none false .none .none (Wh _) (zk _) (.inl rfl) hI (hk d _ o4<|v7 _ hD) (λb o hb _ e=>hk b o hb<|v7 _ e) j4 rfl rfl
   ⟨(λ_ ha=>nomatch ha),UT,(λj a hj=>by simp at hj)⟩
 unfold VC;refine vy<|wpAny_typeOf (T:="dict_items") hv.typeIs ?_;let h1:V0 (.ref S) (.ref r)=false:=by simp[V0,uw]
 let h3:(Wo "dict_items" == Wo "list")=false:=by decide
 let h4:(Wo "dict_items" == Wo "tuple")=false:=by decide
 simp only[h1,h3,h4,Bool.or_false,Ux,if_false];refine vy<|uW hv hD h2 ?_;let j4:=v7 {cls:=.type "dict_itemiterator",data:=.fields #[.none,.bool false,.ref d,.int 0 0,.int es.size 0,.int ep 0,.none,.none]} hS;refine vy (Io<|kdx_hint (let ⟨o,ho,hc,_⟩:=hv;⟨o,W4 ho,hc⟩) ?_);refine wpAny_ite_split (λ_=>?_)<|λ_=>v8 ⟨UP Vi _,key _ c₀ _ (λb o _ e=>e) j4⟩;refine vy<|WE ?_;refine vy ?_
 change W0 (Y1 (·.push .none) >>= λ_=>Y1 (·.pop)) _ _ _
 refine vy<|U6 j4 rfl ?_;let ow:=yb (zy (·.push zc)) j4 rfl;refine U6 (hz:=by seq_fits) ow rfl ?_;let vb:=yb (zy (·.pop)) ow rfl;refine v8 ⟨UP Vi _,key _ _ _ (λb o hb e=>?_) vb⟩;show(Yz<|zj hb).trans ((Yz<|zj hb).trans e)
def Ck{es:Y8 0}{r:d8}{d:d8}{R:Xu 0->d7->Prop}(Z:A.handled=a7)(V:s.heap.IsItemsView r d)(D:s.heap.get? d=a0 oc)(j:oc.data=.dict es ep)(Y:es.size<=w9)(h:∀(H)(t)(S),(∀b o,oa 0=a0 o->H.get? b=a0 o)->S.length=es.size->δn ((s).heap.objs.size) H S->R (S.map z8) {s with heap:=H,toks:=t}):
  cu (collect<|.ref r) R E s:=by
 let X:=let ⟨_,ho,_⟩:=V;wt ho;let g:=wt D;refine vy<|wpAny_runValue<|U7 entry_proto_collect' ?_;rw[UG PySem.F.plain_proto_collect _]
 change A0 (newList [] >>= λl=>again _) _ _ s
 refine vy<|xy ?_;refine v8 ⟨UP PySem.F.plain_list_iadd _,U7 entry_list_iadd' ?_⟩;let v:(s.heap.push {cls:=.type "list",data:=.seq ([]:Xu 0).toArray}).get? ((s).heap.objs.size)=a0 {cls:=.type "list",data:=.seq #[]}:=XO rfl
 change A0 (VC (.ref _) _<|.ref _) _ _ _
 let K:=DM (s:={s with heap:=s.heap.push {cls:=.type "list",data:=.seq ([]:Xu 0).toArray} }) (prog:=prog) (w:=w)
  (R:=λ(q)(u)=>∃(H:e_)(t:Nat)(a:y_ 0)(C:Nat)(S:i_ d8),q=.ok (.ret (.ref ((s).heap.objs.size)))/\u={s with heap:=H,toks:=t}/\
   (∀b o,oa 0=a0 o->H.get? b=a0 o)/\H.get? ((s).heap.objs.size)=a0 {cls:=.type "list",dict:=a7,data:=.seq a C,slots:=#[]}/\S.length=es.size/\δn ((s).heap.objs.size) H S/\a.toList=S.map _)
  Z (let ⟨o,ho,x⟩:=V;⟨o,W4 ho,x⟩) (W4 D) j _ (zr X) (xj g) (.ref _) 0 v
  (λH t a C S k z L G c=>⟨H,t,a,C,S,rfl,rfl,λb o e=>k b o (xj<|wt e)<|v7 _ e,z,L,G.low<|by simp,c⟩) Y
 let i:∀(H)(t)(a)(C)(S),(∀b o,oa 0=a0 o->H.get? b=a0 o)->H.get? ((s).heap.objs.size)=a0 {cls:=.type "list",dict:=a7,data:=.seq a C,slots:=#[]}->S.length=es.size->δn _ H S->a.toList=S.map _->R a.toList {s with heap:=H,toks:=t}:=λH t a C S k _ L G c=>by rw[c];show h H t S k L G
 refine U8 K (λN u x=>?_) λe u x=>?_
 ·cases N with
  |done f=>
   let⟨H,t,a,C,S,e,rfl,k,z,L,G,c⟩:=x;cases e
   change k_ A (load _ >>= _) _ _ _
   refine vy<|wpAny_load z<|v8 ?_;show i H t a C S k z L G c
  |again p=>
   refine⟨x.1,WD x.2 λq n y=>?_⟩;let⟨H,t,a,C,S,rfl,rfl,k,z,L,G,c⟩:=y
   change k_ A (load _ >>= _) _ _ _
   refine vy<|wpAny_load z<|v8 ?_;show i H t a C S k z L G c
 ·let⟨_,_,_,_,_,m,_⟩:=x;cases m
section
variable{k:Nat}
def II:∀{ps:x_ 0}{vs:i_ V},ps.length=vs.length->(∀(i:Nat) p v,ps[i]?=a0 p->vs[i]?=a0 v->Xq v)->c9 ps vs
 |[],[],_,_=>trivial
 |p::ps,v::vs,hl,h=>⟨h 0 p v rfl rfl,II (cA hl) λi a b ha hb=>h (i+1) a b (cA ha) (cA hb)⟩
 |[],_::_,hl,_=>by cases hl
 |_::_,[],hl,_=>by cases hl
end
abbrev AI(h:PH)(n:Nat):jh (x_ 0):=match h[n]? with
 |some (.vw 0 d)=>match h[d]? with
  |some o=>iJ o
  |none=>a7
 |_=>a7
open PySem.SeqAt PySem.W
abbrev kY(x:PV)(h:PH):jh (x_ 0):=match x with
 |.ref n=>match Xr n with
  |some ys=>a0 ys
  |none=>AI h n
 |.fl ys=>a0 ys
 |_=>a7
abbrev gW(f:Fn)(b:Bool)(kb:Nat)(x:PV)(h:PH):W_ 0:=match kY x h with
 |some ys=>if ys.length<1000000 then βX ys [] h else .bad
 |none=>.bad
abbrev kZ(f:Fn)(b:Bool)(kb:Nat)(me:Me):Me:=λδ h=>(me δ h).bind λx h1=>gW f b kb x h1
def Gj{k:Nat}{σ:St}{b:d8}{d:Nat}(c:vn X)(I:q_ s)(rh:m_ h)(hb:φ[d]?=a0 b)(hH:H a=a0 (BP 0 a b))(ho:h[d]?=a0 o)(F:iJ o=a0 ys)(hz:ys.length<1000000):
  wpAny (b8 X) X.A.in1 (collect<|.ref a) (λZ s1=>∃g D,wY H g/\a8 g s1/\aI D Z/\Zd φ g ys D) X.xe s:=by
 let⟨m,u,oc,M,ep,W⟩:=EI c I rh hb ho<|zB F;let hv:=(α8 hH).1;let⟨ly,N⟩:=W.items ys F;let lk:=W.len;refine Ck (XT 0) hv W.get W.data (by rw[Uu];omega) λh' tk S kp hl G=>?_;let L:(S.zip<|m.map λK=>[K.1,K.2]).map (·.1)=S:=by
  change(S.zip _).map _=S
  rw[List.map_fst_zip];rw[wd];omega
 let P:∀q∈S.zip (m.map λK=>[K.1,K.2]),((s).heap.objs.size)<=q.1:=λq hq=>by
  have:q.1∈S:=by rw[<-L];show wo.mpr ⟨q,hq,rfl⟩
  show zi<|G.above _ this
 let nd:((S.zip<|m.map λK=>[K.1,K.2]).map (·.1)).Nodup:=by rw[L];show G.rise.imp λh=>xj h
 let z:∀(j)(t),S[j]?=a0 t->∃(K:V×V)(e:UU),m[j]?=a0 K/\(S.zip<|m.map λK=>[K.1,K.2])[j]?=a0 (t,[K.1,K.2])/\RelV K.1 e.key/\RelV K.2 e.val/\h'.get? t=a0 {cls:=.type "tuple",data:=.seq #[e.key,e.val]}:=λj t r=>by
  let⟨e,U,x⟩:=G.pairs j t r;let J:=(vz.mp r).1;let⟨K,E,R,Y⟩:=W.ent j ⋯;let O:M[j]'⋯=e:=by have:=UN (xs:=M) (i:=j) ⋯;rw[this]at U;cases U;rfl
  refine⟨K,e,E,?_,by rw[<-O];show R,by rw[<-O];show Y,x⟩;rw[VN];show⟨r,by simp[E]⟩
 let vr:∀l:i_ d8,aI (l.map V.ref) (l.map _):=λl=>by
  induction l with
  |nil=>exact .nil
  |cons a l ih=>exact .cons rfl ih
 refine⟨_,S.map V.ref,yJ I P,I.laidT (ps:=S.zip _) kp P<|λp f=>?_,vr S,?_⟩
 ·let⟨j,J⟩:=List.mem_iff_getElem?.mp f;let ha:S[j]?=a0 p.1:=by have:=congrArg (λl=>l[j]?) L;simp[J]at this;show this.symm
  let⟨K,e,_,x,R,Y,B⟩:=z j p.1 ha;rw[J]at x;let Q:p.2=[K.1,K.2]:=by have:=yi x;rw[this]
  refine⟨by rw[Q];change 2<=16777216;decide,[e.key,e.val],by rw[Q];show .cons R<|.cons Y .nil,⟨_,B,rfl,⟨0,rfl⟩,rfl⟩⟩
 ·refine II (by rw[wd];omega) λi p v f n=>?_;rw[xf]at n;let⟨t,r,rfl⟩:=xv.mp n;let⟨K,e,E,x,_⟩:=z i t r;let⟨p1,p2,uq,rfl,y,q1,q2⟩:=N i p f;rw[E]at y;cases y
  let T:=Kp.same<|yJ I P;show⟨t,[K.1,K.2],rfl,.inl<|.inl<|BJ nd x,q1.mono wm T,q2.mono wm T,trivial⟩
variable{kw:i_ (Str×d6)}
open H in
def Cm{k:Nat}{st:h_}{q:d8}{f:Fn}(c:vn X)(D:Xe q fd pn)(G:ZE (Yt 1 f))(hj:j+2<=k)(mz:∀v,argsOk "sorted" ⟨[v],kw⟩)(Z:∀v,argsOk "list.sort" ⟨[.ref v],kw⟩)(ht:∀v,Builtin.«list.sort» ⟨[.ref v],kw⟩=ksk_tree v (.ref q) b){σ:St}{Q:VK}{v:V}(I:q_ s)(ru:WV u)(h:r1 C (gW f b kb) v H Q):
  wpAny (b8 X) X.A (call (.builtin "sorted") [u] kw) (O_ Q) X.xe s:=by
 let⟨φ,h,p,rh,rp,z⟩:=h;unfold gW at z;cases E:kY p h with
 |none=>rw[E]at z;show z.elim
 |some ys=>
 rw[E]at z;let⟨fi,z⟩:=z.ite;refine YL (mz u) ?_;unfold Builtin.«sorted»;refine vy (m:=checkCount "sorted" 1 1 _)<|v8 ?_;let col:wpAny (b8 X) X.A.in1 (collect u) (λt d=>∃r n,wY H r/\a8 r d/\aI n t/\Zd φ r ys n) X.xe s:=by
  let g:∀{a:d8}{vs:i_ V},v=.ref a->ZV vs->εf vs->wpAny (b8 X) X.A.in1 (collect u) (λt d=>∃r n,wY H r/\a8 r d/\aI n t/\Zd φ r ys n) X.xe s:=λ{a vs} ev sa ra=>by
   subst ev;cases ru
   let mn:YQ a vs:=by rw[c.K];show sa
   let⟨t,rv,pl,hz⟩:=I.list mn;refine collect_list pl.isList ?_ (by have:=rv.length;have:=ra.length;rw[Uu];omega);show⟨H,vs,λ_ _ z=>z,I.kept (t':=s.toks) λb o e=>by
    let e7:b<((s).heap.objs.size):=wt e
    first
     |(rw[γF<|xj e7,δ6<|xj e7];show e)
     |exact W4 e,rv,ra⟩
  unfold kY at E;split at E
  ·rename_i n;let⟨a,ev,ha⟩:=rp;split at E
   ·rename_i ox e;cases E
    let⟨a2,vs,Z,sa,ra⟩:=bU rh e;rw[ha]at Z;cases Z;show g ev sa ra
   ·unfold AI at E;split at E
    ·rename_i d hv;split at E
     ·rename_i o ho;subst ev;cases ru
      let⟨bb,hb,hH⟩:=αw hv;show Gj c I rh hb hH ho E fi
     ·cases E
    ·cases E
  ·cases E
   let⟨a,vs,ev,sa,ra⟩:=rp;show g ev sa.sq ra
  ·cases E
 refine vy<|U8 col (λt d hh=>?_) λ_ _ z=>z;let⟨r,n,sm,I1,rv,ry⟩:=hh;let z:=z.weak wm<|Kp.same sm;let rh:=rh.same sm;clear sm I;let ja:n.length=t.length:=rv.length;let i':ys.length=n.length:=ry.length;refine vy (wpAny_newList ?_ (by rw[Uu];omega));let j0:(d.heap.push<|seqObj "list" t.toArray 0).get? d.heap.objs.size=a0 (seqObj "list" t.toArray 0):=XO rfl;let P:∀b o,d.heap.get? b=a0 o->b≠d.heap.objs.size/\(d.heap.push<|seqObj "list" t.toArray 0).get? b=a0 o:=λb o q=>⟨xj<|wt q,W4 q⟩;let fr:∀S,d.heap.objs.size<=S->X.s₀.heap.objs.size<=S/\S≠X.env.locals/\(∀x c,r_ 0=a0 c->c≠S)/\(∀p∈X.pn++b9,p.1≠S)/\S∉X.fs:=λS hk=>C8 I1 hk
 change X1 { d with heap:=d.heap.push (seqObj "list" t.toArray 0)}
 refine vy<|Io<|wpAny_call_entry_kw slot_list_sort ⟨_,j0,rfl⟩ entry_list_sort ?body<|Z _
 case body=>
  change wpAny (b8 X) X.A.in1.in1 (Builtin.«list.sort» ⟨[.ref d.heap.objs.size],kw⟩) _ _ _
  rw[ht d.heap.objs.size];refine uY (s:={ d with heap:=d.heap.push (seqObj "list" t.toArray 0)}) (a:=d.heap.objs.size) (κ:=tuples'<|decide (kb≠2)) (vs:=t) j0 ⋯ (Iy C X b9 σ φ r f b kb ys Q d.heap.objs.size d.heap.objs.size) ?h0 ?en ?turn ?fin
  case h0=>
   intro S e1 h' kp hk g1 g2;let W:d.heap.objs.size<S:=by have:(d.heap.push<|seqObj "list" t.toArray 0).objs.size<=S:=hk;rw[zf]at this;show this
   let I2:a8 r { d with heap:=h'}:=I1.kept (t':=d.toks) λb o q=>kp b o (P b o q).1 (P b o q).2;let fk:=fr S<|zi W;let fa:=fr d.heap.objs.size<|wj _;refine⟨W,r,φ,h,[],[],I2.pins_of λp hp=>?_,wm,Kp.refl r,rh,.nil,trivial,z⟩;rcases wg.mp hp with hp|hp
   ·show I2.pin p (v9 _ hp)
   ·rcases wu.mp hp with rfl|hp
    ·show⟨g2,I1.hok.fresh<|zi W,fk.2.1,fk.2.2.2.2,eK⟩
    ·rw[wx.mp hp];show⟨g1,I1.hok.fresh<|wj _,fa.2.1,fa.2.2.2.2,eK⟩
  case en=>rintro S e1 ks e s' ⟨hz,H',φ',h',zs,G,Y,_⟩;show⟨zr hz,(Y.pin (d.heap.objs.size,seqObj "list" #[] e1)<|v9 _<|v9 _<|wb _ wa).1,(Y.pin (S,seqObj "list" ks.toArray e)<|v9 _<|v9 _ wa).1⟩
  case turn=>intro S e1 ks e s' y hy hJ;show Gh c D G hj ry rv rfl fr S e1 ks e s' y hy hJ
  case fin=>
   rintro S e1 ks e s' hl ⟨hz,H',φ',h',zs,G,Y,pp,tt,gj,rz,rp',y⟩;let hd:Zx 0=[]:=List.drop_eq_nil_of_le ⋯;rw[hd]at y;unfold fU at y;cases es:zC b kb G ys with
   |none=>rw[es]at y;show y.elim
   |some out=>
   rw[es]at y;unfold zC at es;split at es
   ·rename_i hc;let⟨sy,ik,k,my⟩:=hc;cases es
    let ui:G.length=zs.length:=rp'.length;let vf:zs.length=ks.length:=rz.length;let hu:=c.hu64;let hr:HRs s'.heap G ks:=tR Y c.K 20 k.ky rp' rz;let memD:∀i,i<t.length->G.getD i .non∈G:=λi l=>by
     let h1:i<G.length:=⋯;have:G.getD i .non=G[i]:=by simp[h1]
     rw[this];show xt h1
    refine⟨λi j=>ltN (G.getD i .non)<|G.getD j .non,λi j k l hj hk h1 h2=>Dz h1 h2,λi j l hj h=>DA h,λh2 Q' E' hq=>?_,λi j l hj Q' hq=>?_,λp g e2 a1 a2 kp he gk=>?_⟩
    ·show Ez k.m3 hr k.fk ⋯ hq
    ·let mi:=memD i l;let mj:=memD j hj;let⟨bb,hb⟩:=y4.mp<|k.lt _ mi _ mj;let hq:Q' (ltN (G.getD i .non)<|G.getD j .non) s':=hq;rw[AA hb]at hq;let⟨qs,eq,_⟩:=AB k.m3<|k.fk _ mj;show C3 (n:=19) (by change X.A.units+1+1+19<cLine;omega) (k.ky _ mi) (k.ky _ mj) (AB k.m3<|k.fk _ mi) ⟨qs,eq⟩ (hr.getD ⋯) (hr.getD ⋯) hb hq
    ·let dy:∀i∈p,i<t.length:=λi l=>by simpa using a1.mem_iff.mp l
     let fa:=fr d.heap.objs.size<|wj _;let fk:=fr S<|zi hz;let rf:=Y.pin (S,seqObj "list" ks.toArray e)<|v9 _<|v9 _ wa;let jq:=Y.pin (d.heap.objs.size,seqObj "list" #[] e1)<|v9 _<|v9 _<|wb _ wa;let I5:β5 s':=Y.unpinned;let I6:=I5.adopt (a:=d.heap.objs.size) (d:=S) (o:=.lst<|p.map λi=>n.getD i .non) (h':=g) jq.2.1 rf.2.1 fa fk (λx o h1 h2 q=>kp x o h1 h2 q) (by refine⟨?_,p.map<|λi=>t.getD i zc,e2,rB rv (λi l=>by have:=dy i l;omega),he⟩;rw[wd,a1.length_eq,Wr,Uu];omega)
     refine⟨_,rfl,v8 ⟨_,rfl,.ref d.heap.objs.size,_,I6,rfl,?_⟩⟩;refine y.lnew gj ?_ jq.2.1;rw[<-sQ (b:=b) ik k my (p:=p) (by rw[i',ja];show a1) a2];show(ry.mono pp tt).pick (λi l=>by have:=dy i l;omega)
   ·cases es
variable{cy kp:Pos}{kf:Str}
section
variable{st:h_}{q:d8}{jb:Nat}{f:Fn}{p rp fc:Pos}
def Gk{Q:VK}{σ:St}(h:rd C (kZ f b kb me) σ H Q):GT (rd C me) GS σ H λs y=>∃x,s=[x]/\r1 C (gW f b kb) x y Q:=by let⟨o,t,h,u,e,p⟩:=h;refine⟨o,t,h,u,e,(Yh 0).imp ?_⟩;rintro v y ⟨z,x,w,P,T,r,R,q⟩;show⟨v,rfl,z,w,x,r,R,q⟩
def IJ{k:Nat}(D:δ7 pn)(G:ZE (Yt 1 f))(E:c_ e me)(hb:("sorted" : Str)∈C.bs)(J:j+2<=k:=by decide)(y:Yu "sorted" := by rfl)(g:Yu kf:=by rfl)(d:(kf == ("__debug__" : Str))=false:=by decide)(t:xq [e] X.env=(false,xl 0)::xq [] X.env:=by rfl)(b:As (xq [e] X.env)=(false,xl 0)::As (xq [] X.env):=by rfl)(l:(As<|xq [e] X.env).any (·.1)=false:=by rfl):
  c_ (.Call (.Name "sorted" p) [e] [⟨a0 "key",.Name kf kp,cy⟩] pos) (kZ f false kb me):=λc i s n H Q I h=>by
 refine Uv (jF I y (c.bn _ hb) PyProof.Rows.Boot.«sorted» ?_ (by decide) (by decide));refine callWith_kw (thn (tL (E c) zT t pos i s n H _ I<|Gk h) λU S o=>?_) b l;let⟨a,m,z,V,x,rfl,r⟩:=o;let⟨u,rfl,R⟩:=vals1 V;refine kws_cons<|kK z g D.mg (kws_nil ?_) d
 change W0 (call _ [u] [(xm "key",.ref q)]) _ _ _
 show Cm c D G J (λv=>ksk_s1 _ _) (λv=>ksk_l1 _ _) (λv=>ksk_t1 _ _) z R r
end
section
variable{α:Type}
def IK{key emb:α->PV}{f:Fn}{xs:ZH 0}{x:PV}{Q:PV->PH->Prop}(e:kY x h=a0 (δl 0))(h1:xs.length<1000000)(O:OkN m (δk 0))(C:∀a∈xs,∀c∈xs,key a=key c->emb a=emb c)(hf:∀d∈xs,∀h(Q),(∀H,tx H->Q (key d) H)->(f [emb d] h).W Q)(k:∀(o:ZH 0) H,tx H->o.Perm xs->o.Pairwise (λa c=>ltN (key c) (key a)=false)->Q (.ref H.length) (H++[.lst<|o.map emb])):(gW f false m x h).W Q:=by
 let⟨o,p,w,s⟩:=LH h1 O C;unfold gW;rw[e];dsimp only;rw[if_pos<|cA h1];show EJ xs [] h hf s λH X=>k o H X p w
end
@[simp]theorem OP{m:Me}{f:Fn}:kZ f b n m δ h=(Xn h).bind λx h1=>gW f b n x h1:=(rfl)
def DO(e:h[n]?=a0 (.lst xs)):kY (.ref n) h=a0 xs:=by simp[kY,aH,e]
def Cn{d:Nat}(e:h[n]?=a0 (.vw 0 d))(E:h[d]?=a0 o):kY (.ref n) h=iJ o:=by simp[kY,aH,AI,e,E]
abbrev wA(f:Fn):Me:=λ_ h=>f [] h
def LQ{k:Nat}{p:Pos}{st:h_}{f:Fn}(D:Xe a fd ps)(G:j_ a fd ps (Yt 0 f))(J:j<=k:=by decide)(g:Yu x:=by rfl)(d:(x == ("__debug__" : Str))=false:=by decide):c_ (.Call (.Name x p) [] [] pos) (wA f):=λc=>by
 let e:=c.K;let z:βF a fd ps:=by rw[e];show D
 refine(GV (by rw[e];show G) (βK 0) g z.mg z.fn.kp z.bd .nil xZ d).imp λu H Q h=>?_;let⟨y,v,h,r,R,p⟩:=h;show⟨y,h,[],r,trivial,rfl,p⟩
@[simp]theorem Pt{f:Fn}:wA f δ h=f [] h:=rfl
abbrev GEs(P:Params):i_ (Str×Str)->i_ UU->Prop
 |[],[]=>True
 |kv::r,e::es=>e.hash=PyData.keyHash P kv.1/\(∃t,e.key=.str kv.1 t)/\(∃t,e.val=.str kv.2 t)/\GEs P r es
 |_,_=>False
abbrev Rl(C:MC)(a:d8)(kvs:i_ (Str×Str)):Prop:=(a == Uy)=false/\(kvs.map λkv=>(UL kv.1:Key)).Nodup/\∃es ep,C.K.lookup a=a0 ⟨.type "dict",a7,.dict es ep,#[]⟩/\GEs C.w.params kvs es.toList
abbrev oX:i_ (Str×Str)->Str->jh Str
 |[],_=>a7
 |kv::r,z=>if kv.1=z then a0 kv.2 else oX r z
abbrev gdV(o:jh Str):PV:=match o with
 |some v=>.str v
 |none=>.non
abbrev vGd(kvs:i_ (Str×Str)):PV->PH->W_ 0:=λp h=>match p with
 |.str z=>.ok (gdV<|oX kvs z) h
 |_=>.bad
def zE{P:f_}{w:fI}:∀{kvs:i_ (Str×Str)}{es:i_ UU},GEs w.params kvs es->∃V,Pairs (bC P w) es V/\V.map (·.1)=(kvs.map λK=>(UL K.1:Key))/\(∀e∈es,∃k,(bC P w).is k e.key=true/\e.hash=(bC P w).hash k)/\
  ∀z,match oX kvs z with
   |some v=>∃t,valueAt V (UL z:Key)=a0 (.str v t)
   |none=>valueAt V (UL z:Key)=a7
 |[],[],_=>⟨[],.nil,rfl,(λ_ h=>nomatch h),λz=>rfl⟩
 |K::r,e::es,⟨u,⟨l,o⟩,⟨T,n⟩,m⟩=>by
  let⟨V,p,q,s,v⟩:=zE m;let i:(bC P w).is (UL K.1:Key) e.key=true:=by rw[o];show rY P w _ _
  refine⟨((UL K.1:Key),e.val)::V,.cons i rfl p,by rw[xg,xg,q],λx H=>?_,λz=>?_⟩
  ·rcases wu.mp H with rfl|H
   ·show⟨_,i,u⟩
   ·show s x H
  ·let y:=v z;unfold valueAt at y⊢;unfold oX;rw[List.find?_cons];by_cases c:K.1=z
   ·subst c;simp;show⟨T,n⟩
   ·simp only[YC 0,decide_eq_false<|λq=>c<|Sum.inr.inj q];show y
 |[],_::_,h=>h.elim
 |_::_,[],h=>h.elim
def LR{k:Nat}{kvs:i_ (Str×Str)}{m:Me}{p:Pos}(hm:X.mg x=a0 (.ref a))(g:Rl C a kvs)(he:c_ e m)(hg:Yu x:=by rfl)(hd:(x == ("__debug__" : Str))=false:=by decide)(q:V7 (.Name x p) "get" X.env (eval (.Name x p) X.env)=eval (.Name x p) X.env:=by rfl)(u:((YU (xq [e] X.env)).all (λx=>!x.1)&&(γn (keywordEach [] X.env)).all (λx=>x.1.isSome)
   && decide (([e]:i_ g_).length+([]:αY 0).length+(if([]:αY 0).isEmpty then 0 else 1)<30))=true:=by rfl)(jm:(apos.endLine == ab.line)=true:=by rfl)(hs:YU (xq [e] X.env)=[(false,xl 0)]:=by rfl):c_ (.Call (.Attribute (.Name x p) "get" apos) [e] [] ab) (mUn (vGd kvs) m):=λc b s y H Q I q=>by
 let⟨φ,δ,h,rh,re,po⟩:=q;let⟨g1,g2,es,ep,g3,g4⟩:=g;rw[<-c.w]at g4;rw[<-c.K]at g3;let⟨vs,p1,p2,p3,p4⟩:=zE g4;let dd:∀{n s'},Xd b y n s'->s'.heap.DictOf (bC X.prog X.w) a vs:=λj=>⟨_,es,ep,j.bk _ _<|j.mod.kin _ _ g3,⟨rfl,rfl,rfl⟩,rfl,λx hx=>p3 x<|cA hx,p1,by rw[p2];show g2⟩;refine wpAny_Call_method q u jm Vt VJ PySem.F.type_dict_get<|thn (E8 (v:=.ref a) hg hm rfl hd b s y H (λv n=>v=.ref a/\n=H) I ⟨rfl,rfl⟩) λu s1 w0=>?_;let⟨x,i,r,rx,ex,eH⟩:=w0;subst ex eH;obtain rfl:u=z8 a:=rx;refine⟨(dd r).typeIs,λb eb=>?_,?_⟩
 ·cases eb
  show⟨_,r.bk _ _<|r.mod.kin _ _ g3,rfl⟩
 rw[hs];refine Wd rfl<|Calls.evalArgs_plain<|Calls.spliced_cons<|thn (he c b s1 y i _ r ⟨φ,δ,h,rh,re,post.bind po⟩) ?_;rintro iv s2 ⟨y,l,o,ry,φ2,py,h2,p22,t2,I,rv2,s⟩;refine Calls.spliced_nil ?_;cases py with
 |str z=>
  obtain rfl:y=.str z:=rv2;let s:XY φ2 l (.ok (gdV _) h2) Q:=s;let q0:RelV (kV (UL z:Key)) iv:=ry;refine call_meetsIn VJ (dd o).typeIs PySem.F.entry_dict_get (PySem.F.args_dict_get_2 _ _) (meets_dict_get (bC _ X.w) a (sE q0) g1) ⟨_,(dd o).mapOf,?_⟩;let Q:=p4 z;cases e1:oX kvs z with
  |none=>rw[e1]at Q s;rw[Q];show⟨.non,l,o.tok _,rfl,s.val I rfl⟩
  |some v=>rw[e1]at Q s;let⟨t,Q⟩:=Q;rw[Q];show⟨.str v,l,o.tok _,⟨t,rfl⟩,s.val I rfl⟩
 |_=>exact s.elim
abbrev IL(x y:PV)(n:Nat)(h:PH):W_ 0:=match x,h[n]? with
 |.str z,a0 (.dK kvs)=>if kvs.length<w9 then .ok (.ref n) (WY<|.dK<|cL kvs (.inr z) y) else .bad
 |_,_=>.bad
abbrev rN(mk mv:Me):Me:=λδ h=>(mk δ<|h++[.dK []]).bind λx h2=>(mv δ h2).bind λy h3=>IL x y h.length h3
variable{mk:Me}
open H in
def LS{k:Nat}{ke:g_}{ve:g_}(E:c_ ke mk)(hv:c_ ve mv):c_ (.Dict [a0 ke] [ve] pos) (rN mk mv):=λc i s j H Q I ⟨v,T,h,W,re,p⟩=>by
 refine wpAny_Dict_any rfl rfl (λz=>nomatch z) (by change 1<=15;decide) ?_;let F:H _=a7:=I.fresh;let M:Xd i j (t_ _<|.dK []) {s with heap:=s.heap.push {cls:=.type "dict",data:=.dict #[]} }:=I.laid (o:=.dK []) (λ_ _ q=>W4 q) (wj _)<|Bn s.heap I.big;let m:Xl _ (t_ _<|.dK []) (h++[.dK []]):=W.new F ⟨[],aJ,.nil⟩;let r:=re.mono (zp v [((s).heap.objs.size)])<|Kp.new (o:=.dK []) F;let A:(v++[((s).heap.objs.size)])[h.length]?=a0 ((s).heap.objs.size):=by rw[<-W.len];simp
 let p1:XY (v++[((s).heap.objs.size)]) (t_ _<|.dK []) _ Q:=post.weak (zp _ _) (Kp.new F) p;generalize ((s).heap.objs.size)=d at*;generalize v++[d]=φ0 at*;refine evalPairs_cons<|thn (E c i _ j _ _ M ⟨φ0,T,_,m,r,post.bind p1⟩) ?_;rintro ku s1 ⟨x,O,t,K,g,px,J,f,t1,l,rx,q1⟩;refine vy<|thn (hv c i s1 j O _ t ⟨g,T,J,l,r.mono f t1,post.bind q1⟩) ?_;rintro vu s2 ⟨y,Z,Y,V,b,py,h2,P,t2,R,ry,w⟩;refine vy<|wpAny_standAt<|v8<|evalPairs_nil ?_;unfold IL at w;split at w
 ·rename_i z kvs hz;split at w
  ·let a:=dW P<|dW f A;obtain rfl:x=.str z:=rx;let u:RelV (kV (UL z:Key)) ku:=K;let⟨S,n,U⟩:=R.at' _ d _ a hz;let⟨zl,G,vs,e,L⟩:=uM Y.hok n;let el:=ze U;unfold storeAll;rw[List.forIn_cons];refine vy (vy<|wpAny_dictSet_pairs (sE u) L (hsz:=(by rw[<-e.length];show zl)) λh' D B=>v8 ?_);refine v8 ⟨.ref d,upd Z d<|.dK<|putK S (UL z:Key) y,pW Y (by rw[n];show UR) B (let ⟨q,_,_,hq,_⟩:=D;⟨q,hq⟩)<|Hc (by have:=mJ S (UL z:Key) y;omega) G (e.put _ V) D,rfl,?_⟩;let N:uV (Z d):=by rw[n];show UR
   show w b (.ref d) _ wm (Kp.upd N) (R.write a N ⟨_,aJ,RKv.mono wm (Kp.upd N)<|BZ U (UL z:Key) ry⟩) ⟨d,rfl,a⟩
  ·show w.elim
 ·show w.elim
@[simp]theorem Pu:rN mk mv δ h=(mk δ<|h++[.dK []]).bind λx h2=>(mv δ h2).bind λy h3=>IL x y h.length h3:=(rfl)
def EK{kvs:i_ (Key×PV)}(e:h[n]?=a0 (.dK kvs))(l:kvs.length<16777216):IL (.str z) y n h=.ok (.ref n) (WY<|.dK<|cL kvs (.inr z) y):=by unfold IL;rw[e];dsimp only;rw[if_pos<|by assumption]
abbrev IM(n:Nat):i_ (Str×PV)->PH->W_ 0
 |[],h=>.ok (.ref n) h
 |p::r,h=>match h[n]? with
  |some (.dK kvs)=>if kvs.length<w9 then IM n r (WY<|.dK<|cL kvs (.inr p.1) p.2) else .bad
  |_=>.bad
abbrev OQ(zs:yp 0)(ms:Ma):Me:=λδ h=>(Xi<|h++[.dK []]).bind λps h1=>IM h.length (zs.zip ps) h1
@[simp]theorem Pv{zs:yp 0}:OQ zs ms δ h=(Xi<|h++[.dK []]).bind λps h1=>IM h.length (zs.zip ps) h1:=rfl
open PySem.W
abbrev lZ:Ms:=λ_ _=>.bad
def Rm{k:Nat}{st:h_}:Xc st lZ:=λc _ _ σ H _ I h=>by let⟨φ,δ,h,rh,re,p⟩:=h;show p.elim
def getD_none{α:Type}{o:Array (jh α)}{x:α}(h:(o.getD j<|a0 x).isNone=true):o[j]?=a0 a7:=by
 by_cases q:j<o.size
 ·let e:o.getD j (a0 x)=o[j]:=by simp[Array.getD,q]
  rw[e]at h;rw[UN q,Option.isNone_iff_eq_none.mp h]
 ·let e:o.getD j (a0 x)=a0 x:=by simp[Array.getD,q]
  rw[e]at h;cases h
def sub_tuple_tuple:isSubtype (.type "tuple") (.type "tuple")=pure true:=isSubtype_tuple_tuple
open PySem.W
abbrev Ro(i j:Int):Prop:=Builtin.Int.intBits i<=2097152/\Builtin.Int.intBits j<=1000
noncomputable instance(i j:Int):Decidable (Ro i j):=Wb _
abbrev IP(i j:Int)(n:Nat):v_ 0:=sliceRange (V9 (a0 i) a7 (a0 j) n).1 (V9 (a0 i) a7 (a0 j) n).2.1 (V9 (a0 i) a7 (a0 j) n).2.2
abbrev gX{α:Type}(i j:Int)(xs:ZH 0):ZH 0:=(IP i j xs.length).filterMap (xs[·]?)
abbrev wB(i j:Int):PV->PH->W_ 0:=λx h=>match fQ x h with
 |some xs=>.ok (.ref h.length) (h++[.lst<|gX i j xs])
 |none=>.bad
def IQ{α:Type}{i j:Int}{xs:ZH 0}{x:α}(h:x∈gX i j xs):x∈xs:=by let⟨k,_,e⟩:=List.mem_filterMap.1 h;show ye e
def EL{vs:i_ V}(r:Z3 0):∀l:v_ 0,aI (l.filterMap (vs[·]?)) (l.filterMap (us[·]?)):=by
 let g:∀k:Nat,(vs[k]?=a7/\us[k]?=a7)\/∃v u,vs[k]?=a0 v/\us[k]?=a0 u/\aI [v] [u]:=by
  induction r with
  |nil=>intro k;left;show⟨rfl,rfl⟩
  |cons a t i=>
   intro k;cases k with
   |zero=>right;show⟨_,_,rfl,rfl,.cons a .nil⟩
   |succ k=>exact i k
 intro l
 induction l with
 |nil=>exact .nil
 |cons k l i=>
  rcases g k with⟨e,E⟩|⟨v,u,e,E,c⟩
  ·rw[V1 e,V1 E];show i
  ·rw[V2 e,V2 E];show aI.append c i
def RVs.pk{vs:i_ V}(r:Xh 0)(l:v_ 0):c9 (l.filterMap (xs[·]?)) (l.filterMap (vs[·]?)):=by
 let g:∀(xs)(vs),Xh 0->∀k:Nat,(xs[k]?=a7/\vs[k]?=a7)\/∃x v,xs[k]?=a0 x/\vs[k]?=a0 v/\b6 x v:=by
  intro xs
  induction xs with
  |nil=>intro vs r k;cases vs with|nil=>left;show⟨rfl,rfl⟩|cons _ _=>exact r.elim
  |cons x xs i=>
   intro vs r k;cases vs with
   |nil=>exact r.elim
   |cons v vs=>
    cases k with
    |zero=>right;show⟨x,v,rfl,rfl,r.1⟩
    |succ k=>exact i vs r.2 k
 induction l with
 |nil=>exact trivial
 |cons k l i=>
  rcases g xs vs r k with⟨e,E⟩|⟨x,v,e,E,c⟩
  ·rw[V1 e,V1 E];show i
  ·rw[V2 e,V2 E];show⟨c,i⟩
def Gm{i j:Int}(e:h[n]?=a0 (.lst xs)):wB i j (.ref n) h=.ok (.ref h.length) (h++[.lst<|gX i j xs]):=by simp[wB,fQ,aH,e]
section
variable{k:Nat}{lo st:g_}{i j:Int}
def LU(he:c_ e me)(hl:c_ lo (mC<|.int i))(hs:c_ st (mC<|.int j))(hj:(a0 j)≠a0 0:=by decide)(B:∀a b,subscripted (.Slice (a0 lo) a7 (a0 st) p2) false (.ref a) (.ref b)=operate [.ref a,.ref b] (getItem (.ref a)<|.ref b):=by intro _ _;with_unfolding_all rfl):c_ (.Subscript e (.Slice (a0 lo) a7 (a0 st) p2) pos) (mUn (wB i j) me):=λc p s Y H Q I h=>by
 let⟨φ,y,h,rh,re,po⟩:=h;refine Subscript_<|thn (he c p s Y H (λv n=>∃y u r z,Xl u n r/\RE C u n y Y/\RV C u n z v/\XY u n (wB i j z r) Q) I ⟨φ,y,h,rh,re,(post.bind po).imp ?_⟩) λv s1 S=>?_
 ·rintro v n ⟨u,x,r,p1,t1,R,V,m⟩;show⟨y,u,r,x,R,re.mono p1 t1,V,m⟩
 let⟨x,n,I1,r1,F,u,r,z,R,E,V,m⟩:=S;refine wpAny_Slice ?_;refine thn (hl c p s1 Y n (λv U=>v=.int i/\∃t,u<+:t/\Kp n U/\Xl t U r) I1 ⟨u,F,r,R,E,?_⟩) λvl s2 S=>?_
 ·show λf v H' a b s d=>⟨d,f,a,b,s⟩
 let⟨y,U,I2,r2,rfl,t,P,L,H⟩:=S;let⟨I,rfl⟩:=r2;refine v8 ?_;refine thn (hs c p s2 Y U (λv D=>v=.int j/\∃Z,t<+:Z/\Kp U D/\Xl Z D r) I2 ⟨t,F,r,H,E.mono P L,?_⟩) λvk M S=>?_
 ·show λf v H' a b s d=>⟨d,f,a,b,s⟩
 let⟨z,D,I3,r3,rfl,Z,x,F,N⟩:=S;let⟨E,rfl⟩:=r3;unfold wB at m;cases es:fQ z r with
 |none=>rw[es]at m;show m.elim
 |some xs=>
  rw[es]at m;let O:=P.trans x;let J:=L.trans F;let⟨a,G,rfl,sa,ra⟩:=dO N (V.mono O J) es;cases r1
  let I4:Xd p Y D { M with heap:=M.heap.push {cls:=.type "slice",data:=.fields #[.int i I,.none,.int j E]} }:=I3.kept λb ob q=>W4 q;let⟨T,W,pl,hz⟩:=I4.list (by rw[c.K];show sa);let l:=W.length;let e:slicePick T.toArray (a0 i) a7 (a0 j)=(gX i j T).toArray:=by unfold slicePick gX IP;simp[w6,List.getElem?_toArray]
  let hle:(gX i j G).length<=G.length:=by
   let g:=slicePick_size_le T.toArray (a0 i) a7<|a0 j;rw[e]at g;simp[w6]at g
   change((IP i j _).filterMap _).length<=G.length
   rw[(EL W<|IP i j G.length).length,l];show g
  let hg:wpAny (b8 X) X.A (getItem (.ref a)<|.ref M.heap.objs.size) (EP X p Y Q) X.xe { M with heap:=M.heap.push {cls:=.type "slice",data:=.fields #[.int i I,.none,.int j E]} }:=by refine wpAny_getItem_list_slice pl.isList (Heap.IsSliceOf.new ..) (.int i I) .none (.int j E) hj ?_ (by rw[w6] <;> omega);rw[e];refine⟨.ref _,_,I4.laid (o:=.lst<|gX i j G) (λb ob q=>W4 q) (wj _) ⟨⋯,gX i j T,0,by unfold gX;rw[<-l];show EL W _,XO rfl⟩,rfl,(post.weak O J m).lnew N (by unfold gX;rw[ra.length];show ra.pk _)<|I4.hok.fresh<|wj _⟩
  show tail_any (ops:=[.ref a,.ref _]) pl.isList.typeIs slot_list_getitem.lookup hg<|B _ _
end
open PySem.SeqAt
open PySem.AutoSeq1 (wpAny_loadPart')
open PySem.MeetsSeq PySem.MeetsSeq2 PySem.MeetsSeq3
def Rp{y:Str}{t u:Tok}(h:Q (.bool<|decide (y.cps.toList<x.cps.toList)) s):cu (zt .Gt (.str x t)<|.str y u) Q E s:=compareOp_gives (Yy x t) (Yy y u) F.slot_str_gt F.entry_str_gt (F.args_str_gt_2 _ _) (gives_str_gt x y t u) (λe=>nomatch e) h
abbrev LV(A:d_)(s:d7)(v u:d6)(b:Bool):Prop:=∀(prog:f_)(w:fI)(E:(d6->d7->Prop))(Q:(d6->d7->Prop)),Q (.bool b) s->cu (Wz .Gt v u) Q E s
abbrev Rq(n:Nat)(A:d_)(s:d7)(v u:d6)(d e:PV):Prop:=Zv v u (decide (d=e))/\(d≠e->∀b,ltP n e d=a0 b->δo b)
@[reducible]noncomputable def zF(n:Nat)(A:d_)(s:d7):Xu 0->Xu 0->x_ 0->x_ 0->Prop:=λvs us ds es=>vs.length=ds.length/\us.length=es.length/\∀(j:Nat) v u d e,vs[j]?=a0 v->us[j]?=a0 u->ds[j]?=a0 d->es[j]?=a0 e->Rq n A s v u d e
def zF.tail{d e:PV}{ds es:x_ 0}(h:zF n A s (v::vs) (u::us) (d::ds) (e::es)):Rq n A s v u d e/\zF n A s vs us ds es:=⟨h.2.2 0 v u d e rfl rfl rfl rfl,by have:=h.1;simpa using this,by have:=h.2.1;simpa using this,λj v u d e H z y x=>h.2.2 (j+1) v u d e (cA H) (cA z) (cA y)<|cA x⟩
def AJ(o:Nat)(l b:d8)(t i:y_ 0)(n Q:Nat)(j D:jh d8)(M L:Array (T_ 0))(ds es:x_ 0)(c:Bool)(C:ltL (ltP o) es ds=a0 c):
  Meets (Builtin.«tuple.__gt__» ⟨[.ref l,.ref b],[]⟩)
   (λA R s=>δB 0=a0 {cls:=.type "tuple",dict:=j,data:=.seq t n,slots:=M}/\oa 0=a0 {cls:=.type "tuple",dict:=D,data:=.seq i Q,slots:=L}/\
    zF o A.in1 s t.toList i.toList ds es/\R (.ok (.ret (.bool c))) s):=
 .of_wp λp w A R s h=>by
  let⟨P,g,d,T,O⟩:=s;let⟨hl,hb,hit,h⟩:=h;let F:=AutoSeq1.sub_tuple_tuple;let G:t.size=ds.length:=by rw[<-hit.1];simp
  let z2:i.size=es.length:=by rw[<-hit.2.1];simp
  wp_walk using Wm hl,Wm hb,Zw (λE b k=>b.1=a7/\k=⟨P,g,d,T,O⟩/\∃(S W:Xu 0)(N m:x_ 0),E=S.zip W/\
   zF o A.in1 ⟨P,g,d,T,O⟩ S W N m/\N.length+i.size=m.length+t.size/\ltL (ltP o) m N=a0 c) _
  case turn=>
   rintro⟨y,x⟩ E b k ⟨B,rfl,S,W,N,m,Z,V,H,r⟩;cases S with
   |nil=>rw[List.zip_nil_left]at Z;cases Z
   |cons v S=>
    cases W with
    |nil=>rw[List.zip_nil_right]at Z;cases Z
    |cons u W=>
     rw[Wf]at Z;injection Z with hyx hrest;injection hyx with hy hx;subst hy hx;cases N with
     |nil=>have:=V.1;simp at this
     |cons a N=>
      cases m with
      |nil=>have:=V.2.1;simp at this
      |cons e m=>
       let⟨⟨f,Y⟩,X⟩:=zF.tail V;simp only[yw]at H;simp only[ltL]at r;refine vy<|f p w _ _ ?_;by_cases q:a=e
       ·rw[if_pos q.symm]at r;rw[decide_eq_true q]
        wp_walk
        show⟨rfl,rfl,_,_,_,_,hrest,X,⋯,r⟩
       ·rw[if_neg λz=>q z.symm]at r;rw[decide_eq_false q];let I:=Y q c r p w
        wp_walk using I
        show⟨_,rfl,cA h⟩
  case fin=>
   rintro⟨K,J⟩ k ⟨B,rfl,S,W,N,m,Z,V,H,r⟩;simp only at B;subst B;let U:c=decide (i.size<t.size):=by
    cases N with
    |nil=>
     cases m with
     |nil=>
      simp only[VU]at H;simp only[ltL]at r;cases r
      show(decide_eq_false ⋯).symm
     |cons e m=>
      simp only[VU,yw]at H;simp only[ltL]at r;cases r
      show(decide_eq_false ⋯).symm
    |cons a N=>
     cases m with
     |nil=>
      simp only[VU,yw]at H;simp only[ltL]at r;cases r
      show(decide_eq_true ⋯).symm
     |cons e m=>
      exfalso;cases S with
      |nil=>have:=V.1;simp at this
      |cons v S=>
       cases W with
       |nil=>have:=V.2.1;simp at this
       |cons u W=>rw[Wf]at Z;cases Z
   rw[U]at h
   wp_walk
   show⟨_,rfl,by simpa[Builtin.Tuple.tupleCompareSizes] using h⟩
  case h=>exact⟨rfl,rfl,t.toList,i.toList,ds,es,rfl,hit,⋯,C⟩
def OR:∀(n:Nat){A:d_}{s:d7}{p q:PV}{v u:d6}{b:Bool},p.ky n=true->q.ky n=true->A.units+n<cLine->z_ p v->z_ q u->ltP n q p=a0 b->δo b:=by
 intro n;let N:∀{A:d_}{s:d7}{i j:Int}{v u:d6}{b:Bool},z_ (.int i) v->z_ (.int j) u->a0 (decide (j<i))=a0 b->δo b:=λ{A s i j v u b} r R e=>by
  let⟨t,rfl⟩:=r;let⟨t',rfl⟩:=R;cases e
  show λo w E Q q=>(PyProof.Rows.gt_int q:wpAny (model o w) A (zt .Gt _ _) Q E s)
 let W:∀{A:d_}{s:d7}{i j:Str}{v u:d6}{b:Bool},z_ (.str i) v->z_ (.str j) u->a0 (decide (j.cps.toList<i.cps.toList))=a0 b->δo b:=λ{A s i j v u b} r R e=>by
  let⟨t,rfl⟩:=r;let⟨t',rfl⟩:=R;cases e
  show λo w E Q q=>(Rp q)
 induction n with
 |zero=>
  intro A s p q v u b P Y hu r R e;cases p with
  |int i=>
   cases q with
   |int j=>exact N r R e
   |_=>simp[ltP]at e
  |str i=>
   cases q with
   |str j=>exact W r R e
   |_=>simp[ltP]at e
  |_=>cases P
 |succ n ih=>
  intro A s p q v u b P Y hu r R e;cases p with
  |int i=>
   cases q with
   |int j=>exact N r R e
   |_=>simp[ltP]at e
  |str i=>
   cases q with
   |str j=>exact W r R e
   |_=>simp[ltP]at e
  |tup V=>
   cases q with
   |tup M=>
    let⟨a,T,rfl,p1,J⟩:=r;let⟨a',I,rfl,p2,S⟩:=R;let⟨⟨cls,dd,k,sl⟩,Z,C,m,D⟩:=id p1;let⟨⟨c,y,z,L⟩,O,h,m2,H⟩:=id p2;simp only at C D h H;subst C D h H;refine λo w E Q l=>richCompare_meets_room (op:=.Gt) ⟨_,Z,rfl⟩ ⟨_,O,rfl⟩ PySem.F.slot_tuple_gt PySem.F.entry_tuple_gt (PySem.F.args_tuple_gt_2 _ _) (AJ n a a' T.toArray I.toArray m m2 dd y sl L V M b<|by simpa[ltP] using e)
     ⟨Z,O,⟨?_,?_,?_⟩,show Value.bool b≠Value.notImplemented/\Q (.bool b) s from⟨(λx=>nomatch x),l⟩⟩ ⋯
    ·let l1:=J.length
     change T.length=V.length
     omega
    ·let l1:=S.length
     change I.length=M.length
     omega
    ·intro j v u d e h1 h2 g f;let⟨v',hv,B⟩:=J.at g;let⟨u',eh,G⟩:=S.at f;let e1:v=v':=by simp_all
     let e2:u=u':=by simp_all
     subst e1 e2;let K:=(xi.mp P) d<|ye g;let X:=(xi.mp Y) e<|ye f;let U:A.in1.units+n<cLine:=by change A.units+1+n<cLine;omega
     show⟨Ah K X U B G,λ_ b hb=>ih K X U B G hb⟩
   |_=>simp[ltP]at e
  |_=>cases P
variable{cc:Nat}{fp:i_ d8}
section
variable{S:d8}{wr:i_ d8}{a b:d6}{St:Nat->e_->Prop}
def Gn(W:βV A.in1 I fp wr 2 (λi v=>(#[a,b]:y_ 0)[i]?=a0 v) St)(i3:S∉fp)(nv:St 0 s.heap)(hS:βH 0=a0 {cls:=.type "list",dict:=a7,data:=.seq #[] cc,slots:=#[]})(hc:∀s':d7,(∀x o,x∉wr->x≠S->A4 0=a0 o->αU 0=a0 o)->∀(Q:(d6->d7->Prop))(E:(d6->d7->Prop)),Q (.bool c) s'->H_ (Wz .Gt b a) Q E s')(hR:∀h' tk,(∀x o,x∉wr->x≠S->A4 0=a0 o->βJ 0=a0 o)->R (.ok<|.ret<|if c=true then b else a) {s with heap:=h',toks:=tk}):
  codeAny (Q_ w) A (.builtin "max.loop" ⟨[.ref I,.none,.ref S],[]⟩) R s:=by
 let il:S∉wr:=λh=>i3<|W.sub _ h;let ao:(toString "max" ++ toString ".loop" : String)="max.loop" := by decide
 let k8:∀{x},x≠S->S≠x:=λh=>zj h;refine γG 0 ?_;rw[UG VH _]
 change A0 (seqItems? (.ref S) >>= _) _ _ s
 refine vy<|Ur hS rfl ?_
 change A0 (tryCatch (pyNext<|.ref I) _ >>= _) _ _ s
 refine vy (VP<|W.item 0 s _ _ (by decide) nv λv h1 qv hP ij ig=>?_);let ev:a=v:=by simpa using hP
 subst ev;let ip:=ig S _ il hS
 change A0 (Y1 (λ_=>#[a,a]) >>= _) _ _ _
 refine vy ?_;refine U6 ip rfl ?_;rw[ao];refine v8 ⟨UP VH _,?_⟩;refine γG 0 ?_;rw[UG VH _]
 change A0 (seqItems? (.ref S) >>= _) _ _ _
 refine vy<|Ur (yb _ ip rfl) rfl ?_
 change A0 (tryCatch (pyNext<|.ref I) _ >>= _) _ _ _
 refine vy (VP<|W.item 1 _ _ _ (by decide) (βs ij λx iu o e=>?_) λv h2 u4 oh fb jr=>?_)
 ·show(Yz (λh:S=x=>i3 (by rw[h];show iu))).trans e
 let ev:b=v:=by simpa using oh
 subst ev;let gv:=jr S _ il<|yb _ ip rfl;let iq:∀x o,x∉wr->x≠S->A4 0=a0 o->h2.get? x=a0 o:=λx o hw hn e=>jr x o hw<|(Yz<|zj hn).trans<|ig x o hw e
 change A0 (tryCatch (holding [b,b]<|Wz .Gt b a >>= _) _ >>= _) _ _ _
 refine vy<|VP<|Io<|vy<|hc _ iq _ _ ?_;refine vy<|Io<|Wp ?_;refine vy<|UQ<|v8 ?_;let last:∀{v:d6}{h3:e_}{jy:Nat}{c3:Nat},St 2 h3->h3.get? S=a0 {cls:=.type "list",dict:=a7,data:=.seq #[v,v] c3,slots:=#[]}->(∀x o,x∉wr->x≠S->A4 0=a0 o->h3.get? x=a0 o)->v=(if c=true then b else a)->
   codeAny (Q_ w) A (.builtin "max.loop" ⟨[.ref I,.none,.ref S],[]⟩) R {s with heap:=h3,toks:=jy}:=λ{v h3 jy c3} ag hS3 kp3 ev=>by
  refine γG 0 ?_;rw[UG VH _]
  change A0 (seqItems? (.ref S) >>= _) _ _ _
  refine vy<|Ur hS3 rfl ?_
  change A0 (tryCatch (pyNext<|.ref I) _ >>= _) _ _ _
  refine vy<|VP<|W.done _ _ _ ag λh' tk e9=>?_;let mq:=e9 S _ il hS3
  change A0 (Y1 (λ_=>#[]) >>= _) _ _ _
  refine vy ?_;refine U6 mq rfl<|vy<|UQ<|v8 ?_;rw[ev];show hR _ tk λx o hw hn e=>(Yz<|zj hn).trans<|e9 x o hw<|kp3 x o hw hn e
 cases hb:c with
 |true=>simp only[if_true];refine vy ?_;refine U6 gv rfl<|vy<|UQ ?_;rw[ao];refine v8 ⟨UP VH _,last (βs fb λx iu o e=>?_) (yb _ gv rfl) (λx o hw hn e=>(Yz<|zj hn).trans (iq x o hw hn e))<|by rw[if_pos hb]⟩;show(Yz (λh:S=x=>i3 (by rw[h];show iu))).trans e
 |false=>simp only[Ux,if_false];refine vy<|UQ ?_;rw[ao];show v8 ⟨UP VH _,last fb gv iq (by rw[if_neg (by rw[hb];decide)])⟩
def max_two(hh:A.handled=a7)(hc:∀s':d7,(∀x o,A4 0=a0 o->αU 0=a0 o)->∀(Q:(d6->d7->Prop))(E:(d6->d7->Prop)),Q (.bool c) s'->H_ (Wz .Gt b a) Q E s')(h:∀h' tk,(∀x o,A4 0=a0 o->βJ 0=a0 o)->Q (if c=true then b else a) {s with heap:=h',toks:=tk}):cu (call (.builtin "max") [a,b]) Q E s:=by
 let ao:(toString "max" ++ toString ".loop" : String)="max.loop" := by decide
 refine call_function_tree F.kind_max F.plain_max F.entry_max (F.args_max2 _ _) ?_
 change A0 (VD "max" ["key","default"] 0 ⟨[],[]⟩ >>= _) _ _ s
 refine vy (wpAny_of_eq (show VD "max" ["key","default"] 0 ⟨[],[]⟩=pure [a7,a7] from rfl) ?_)
 change A0 (newTuple [a,b] >>= _) _ _ s
 refine vy<|xy ?_;let hT:(s.heap.push {cls:=.type "tuple",data:=.seq #[a,b]}).IsTuple ((s).heap.objs.size) #[a,b]:=⟨_,XO rfl,rfl,0,rfl⟩;let hsz:(s.heap.push {cls:=.type "tuple",data:=.seq #[a,b]}).objs.size=((s).heap.objs.size)+1:=zf ..;refine vy<|wpAny_pyIter_tuple hT ?_;refine vy<|xy ?_;rw[ao];let m8:∀{x o},A4 0=a0 o->x<((s).heap.objs.size):=λe=>wt e;refine v8 ⟨UP VH _,Gn (Walks.tuple (A:=A.in1) hh _ ((s).heap.objs.size) (by rw[hsz];show xj<|Vp _) #[a,b]) (λhm=>?_) ⟨⟨_,W4<|we _ rfl,rfl,rfl⟩,(hT.push _).push _⟩ (XO rfl) (λs' k Q E q=>hc s' (λx o e=>?_) Q E q) λh' tk k=>h h' tk λx o e=>?_⟩
 ·let z:((s.heap.push {cls:=.type "tuple",data:=.seq #[a,b]}).push {cls:=.type "tuple_iterator",data:=.fields #[.ref<|(s).heap.objs.size,.int 0 0]}).objs.size=((s).heap.objs.size)+2:=by rw[zf,hsz]
  rcases wu.mp hm with q|q
  ·let q:_=(s.heap.push {cls:=.type "tuple",data:=.seq #[a,b]}).objs.size:=q;rw[hsz]at q;show absurd (z.symm.trans q) ⋯
  ·show absurd (z.symm.trans<|wx.mp q) ⋯
 all_goals
  let l:=m8 e;refine k x o (λhm=>?_) (λq=>?_)<|v7 _<|v7 _<|v7 _ e
  ·let q:=wx.mp hm;let q:x=(s.heap.push {cls:=.type "tuple",data:=.seq #[a,b]}).objs.size:=q;rw[q,hsz]at l;show z6 _<|V3 l
  ·let q:x=((s.heap.push {cls:=.type "tuple",data:=.seq #[a,b]}).push {cls:=.type "tuple_iterator",data:=.fields #[.ref<|(s).heap.objs.size,.int 0 0]}).objs.size:=q;rw[q,zf,hsz]at l;show z6 _<|V3<|V3 l
end
section
variable{S:d8}{wr:i_ d8}{a b:d6}{St:Nat->e_->Prop}
def Gp(W:βV A.in1 I fp wr 2 (λi v=>(#[a,b]:y_ 0)[i]?=a0 v) St)(i3:S∉fp)(nv:St 0 s.heap)(hS:βH 0=a0 {cls:=.type "list",dict:=a7,data:=.seq #[] cc,slots:=#[]})(hc:∀s':d7,(∀x o,x∉wr->x≠S->A4 0=a0 o->αU 0=a0 o)->∀(Q:(d6->d7->Prop))(E:(d6->d7->Prop)),Q (.bool c) s'->H_ (Wz .Lt b a) Q E s')(hR:∀h' tk,(∀x o,x∉wr->x≠S->A4 0=a0 o->βJ 0=a0 o)->R (.ok<|.ret<|if c=true then b else a) {s with heap:=h',toks:=tk}):
  codeAny (Q_ w) A (.builtin "min.loop" ⟨[.ref I,.none,.ref S],[]⟩) R s:=by
 let il:S∉wr:=λh=>i3<|W.sub _ h;let ao:(toString "min" ++ toString ".loop" : String)="min.loop" := by decide
 let k8:∀{x},x≠S->S≠x:=λh=>zj h;refine γH 0 ?_;rw[UG VI _]
 change A0 (seqItems? (.ref S) >>= _) _ _ s
 refine vy<|Ur hS rfl ?_
 change A0 (tryCatch (pyNext<|.ref I) _ >>= _) _ _ s
 refine vy (VP<|W.item 0 s _ _ (by decide) nv λv h1 qv hP ij ig=>?_);let ev:a=v:=by simpa using hP
 subst ev;let ip:=ig S _ il hS
 change A0 (Y1 (λ_=>#[a,a]) >>= _) _ _ _
 refine vy ?_;refine U6 ip rfl ?_;rw[ao];refine v8 ⟨UP VI _,?_⟩;refine γH 0 ?_;rw[UG VI _]
 change A0 (seqItems? (.ref S) >>= _) _ _ _
 refine vy<|Ur (yb _ ip rfl) rfl ?_
 change A0 (tryCatch (pyNext<|.ref I) _ >>= _) _ _ _
 refine vy (VP<|W.item 1 _ _ _ (by decide) (βs ij λx iu o e=>?_) λv h2 u4 oh fb jr=>?_)
 ·show(Yz (λh:S=x=>i3 (by rw[h];show iu))).trans e
 let ev:b=v:=by simpa using oh
 subst ev;let gv:=jr S _ il<|yb _ ip rfl;let iq:∀x o,x∉wr->x≠S->A4 0=a0 o->h2.get? x=a0 o:=λx o hw hn e=>jr x o hw<|(Yz<|zj hn).trans<|ig x o hw e
 change A0 (tryCatch (holding [b,b]<|Wz .Lt b a >>= _) _ >>= _) _ _ _
 refine vy<|VP<|Io<|vy<|hc _ iq _ _ ?_;refine vy<|Io<|Wp ?_;refine vy<|UQ<|v8 ?_;let last:∀{v:d6}{h3:e_}{jy:Nat}{c3:Nat},St 2 h3->h3.get? S=a0 {cls:=.type "list",dict:=a7,data:=.seq #[v,v] c3,slots:=#[]}->(∀x o,x∉wr->x≠S->A4 0=a0 o->h3.get? x=a0 o)->v=(if c=true then b else a)->
   codeAny (Q_ w) A (.builtin "min.loop" ⟨[.ref I,.none,.ref S],[]⟩) R {s with heap:=h3,toks:=jy}:=λ{v h3 jy c3} ag hS3 kp3 ev=>by
  refine γH 0 ?_;rw[UG VI _]
  change A0 (seqItems? (.ref S) >>= _) _ _ _
  refine vy<|Ur hS3 rfl ?_
  change A0 (tryCatch (pyNext<|.ref I) _ >>= _) _ _ _
  refine vy<|VP<|W.done _ _ _ ag λh' tk e9=>?_;let mq:=e9 S _ il hS3
  change A0 (Y1 (λ_=>#[]) >>= _) _ _ _
  refine vy ?_;refine U6 mq rfl<|vy<|UQ<|v8 ?_;rw[ev];show hR _ tk λx o hw hn e=>(Yz<|zj hn).trans<|e9 x o hw<|kp3 x o hw hn e
 cases hb:c with
 |true=>simp only[if_true];refine vy ?_;refine U6 gv rfl<|vy<|UQ ?_;rw[ao];refine v8 ⟨UP VI _,last (βs fb λx iu o e=>?_) (yb _ gv rfl) (λx o hw hn e=>(Yz<|zj hn).trans (iq x o hw hn e))<|by rw[if_pos hb]⟩;show(Yz (λh:S=x=>i3 (by rw[h];show iu))).trans e
 |false=>simp only[Ux,if_false];refine vy<|UQ ?_;rw[ao];show v8 ⟨UP VI _,last fb gv iq (by rw[if_neg (by rw[hb];decide)])⟩
def min_two(hh:A.handled=a7)(hc:∀s':d7,(∀x o,A4 0=a0 o->αU 0=a0 o)->∀(Q:(d6->d7->Prop))(E:(d6->d7->Prop)),Q (.bool c) s'->H_ (Wz .Lt b a) Q E s')(h:∀h' tk,(∀x o,A4 0=a0 o->βJ 0=a0 o)->Q (if c=true then b else a) {s with heap:=h',toks:=tk}):cu (call (.builtin "min") [a,b]) Q E s:=by
 let ao:(toString "min" ++ toString ".loop" : String)="min.loop" := by decide
 refine call_function_tree F.kind_min F.plain_min F.entry_min (F.args_min2 _ _) ?_
 change A0 (VD "min" ["key","default"] 0 ⟨[],[]⟩ >>= _) _ _ s
 refine vy (wpAny_of_eq (show VD "min" ["key","default"] 0 ⟨[],[]⟩=pure [a7,a7] from rfl) ?_)
 change A0 (newTuple [a,b] >>= _) _ _ s
 refine vy<|xy ?_;let hT:(s.heap.push {cls:=.type "tuple",data:=.seq #[a,b]}).IsTuple ((s).heap.objs.size) #[a,b]:=⟨_,XO rfl,rfl,0,rfl⟩;let hsz:(s.heap.push {cls:=.type "tuple",data:=.seq #[a,b]}).objs.size=((s).heap.objs.size)+1:=zf ..;refine vy<|wpAny_pyIter_tuple hT ?_;refine vy<|xy ?_;rw[ao];let m8:∀{x o},A4 0=a0 o->x<((s).heap.objs.size):=λe=>wt e;refine v8 ⟨UP VI _,Gp (Walks.tuple (A:=A.in1) hh _ ((s).heap.objs.size) (by rw[hsz];show xj<|Vp _) #[a,b]) (λhm=>?_) ⟨⟨_,W4<|we _ rfl,rfl,rfl⟩,(hT.push _).push _⟩ (XO rfl) (λs' k Q E q=>hc s' (λx o e=>?_) Q E q) λh' tk k=>h h' tk λx o e=>?_⟩
 ·let z:((s.heap.push {cls:=.type "tuple",data:=.seq #[a,b]}).push {cls:=.type "tuple_iterator",data:=.fields #[.ref<|(s).heap.objs.size,.int 0 0]}).objs.size=((s).heap.objs.size)+2:=by rw[zf,hsz]
  rcases wu.mp hm with q|q
  ·let q:_=(s.heap.push {cls:=.type "tuple",data:=.seq #[a,b]}).objs.size:=q;rw[hsz]at q;show absurd (z.symm.trans q) ⋯
  ·show absurd (z.symm.trans<|wx.mp q) ⋯
 all_goals
  let l:=m8 e;refine k x o (λhm=>?_) (λq=>?_)<|v7 _<|v7 _<|v7 _ e
  ·let q:=wx.mp hm;let q:x=(s.heap.push {cls:=.type "tuple",data:=.seq #[a,b]}).objs.size:=q;rw[q,hsz]at l;show z6 _<|V3 l
  ·let q:x=((s.heap.push {cls:=.type "tuple",data:=.seq #[a,b]}).push {cls:=.type "tuple_iterator",data:=.fields #[.ref<|(s).heap.objs.size,.int 0 0]}).objs.size:=q;rw[q,zf,hsz]at l;show z6 _<|V3<|V3 l
end
abbrev sS:x_ 0->PH->W_ 0:=λxs h=>match xs with
 |[.tup a,.tup b]=>if(PV.tup a).ky 20=true/\(PV.tup b).ky 20=true then(match ltP 20 (.tup b) (.tup a) with
  |some c=>.ok (if c=true then .tup b else .tup a) h
  |none=>.bad) else .bad
 |_=>.bad
abbrev sT:x_ 0->PH->W_ 0:=λxs h=>match xs with
 |[.tup a,.tup b]=>if(PV.tup a).ky 20=true/\(PV.tup b).ky 20=true then(match ltP 20 (.tup a) (.tup b) with
  |some c=>.ok (if c=true then .tup b else .tup a) h
  |none=>.bad) else .bad
 |_=>.bad
open H in
def OS{k:Nat}:Yj (.builtin "min") sS:=λc b9 s σ H xs us Q I r h=>by
 let⟨φ,h,ps,rh,rv,po⟩:=h;unfold sS at po;split at po
 ·rename_i a b;let⟨v,w,rfl,rx,ry⟩:=rv.two;let⟨u,z,rfl,r1,r2⟩:=vals2 r;let⟨⟨k1,k2⟩,po⟩:=po.ite;cases e:ltP 20 (.tup b) (.tup a) with
  |none=>rw[e]at po;show po.elim
  |some c1=>
   rw[e]at po;let ha:=γI k1 rx r1;let hb:=γI k2 ry r2;refine min_two (c:=c1) (XT 0) (λs' kp Q' E' q=>HZ 20 k2 k1 ?_ (hb.keep λx it t=>let ⟨o,e,z⟩:=t;⟨o,kp _ _ e,z⟩) (ha.keep λx it t=>let ⟨o,e,z⟩:=t;⟨o,kp _ _ e,z⟩) e X.prog X.w E' Q' q) λh' tk kp=>?_
   ·change X.A.units+1+20<cLine
    have:=c.hu64;omega
   ·cases c1 with
    |true=>exact⟨_,H,I.kept kp,r2,γJ ry⟩
    |false=>exact⟨_,H,I.kept kp,r1,γJ rx⟩
 ·show po.elim
open H in
def OT{k:Nat}:Yj (.builtin "max") sT:=λc b9 s σ H xs us Q I r h=>by
 let⟨φ,h,ps,rh,rv,po⟩:=h;unfold sT at po;split at po
 ·rename_i a b;let⟨v,w,rfl,rx,ry⟩:=rv.two;let⟨u,z,rfl,r1,r2⟩:=vals2 r;let⟨⟨k1,k2⟩,po⟩:=po.ite;cases e:ltP 20 (.tup a) (.tup b) with
  |none=>rw[e]at po;show po.elim
  |some c1=>
   rw[e]at po;let ha:=γI k1 rx r1;let hb:=γI k2 ry r2;refine max_two (c:=c1) (XT 0) (λs' kp Q' E' q=>OR 20 k2 k1 ?_ (hb.keep λx it t=>let ⟨o,e,z⟩:=t;⟨o,kp _ _ e,z⟩) (ha.keep λx it t=>let ⟨o,e,z⟩:=t;⟨o,kp _ _ e,z⟩) e X.prog X.w E' Q' q) λh' tk kp=>?_
   ·change X.A.units+1+20<cLine
    have:=c.hu64;omega
   ·cases c1 with
    |true=>exact⟨_,H,I.kept kp,r2,γJ ry⟩
    |false=>exact⟨_,H,I.kept kp,r1,γJ rx⟩
 ·show po.elim
def IR{a b:x_ 0}(k1:(PV.tup a).ky 20=true)(k2:(PV.tup b).ky 20=true)(e:ltP 20 (.tup b) (.tup a)=a0 c):sS [.tup a,.tup b] h=.ok (if c=true then .tup b else .tup a) h:=by simp only[sS];rw[if_pos ⟨k1,k2⟩,e]
def IS{a b:x_ 0}(k1:(PV.tup a).ky 20=true)(k2:(PV.tup b).ky 20=true)(e:ltP 20 (.tup a) (.tup b)=a0 c):sT [.tup a,.tup b] h=.ok (if c=true then .tup b else .tup a) h:=by simp only[sT];rw[if_pos ⟨k1,k2⟩,e]
open PySem.MeetsSeq PySem.SeqAt
section
variable{k:Nat}{σ:St}
abbrev lkU(h:PH):PV->PV->Bool
 |.ref n,.ref m=>match Xr n,Xr m with
  |some xs,a0 ys=>decide (xs=ys)&&xs.all (PV.pl 30)
  |_,_=>false
 |x,y=>decide (x=y)&&x.pl 30
@[reducible]noncomputable def Tn(h:PH):x_ 0->x_ 0->Bool:=kW<|lkU h
abbrev DP(h:PH)(n m:Nat):Y4 0:=match Xr n,Xr m with
 |some xs,a0 ys=>if xs=ys/\xs.all (PV.pl 30)=true then a0 true else if xs.length=ys.length then a7 else a0 false
 |_,_=>a7
abbrev eqM:PV->PV->PH->Y4 0:=λx y h=>match x,y with
 |.non,.str _=>δw 0
 |.non,.tup _=>δw 0
 |.ref n,.ref m=>DP h n m
 |x,y=>if x.ky 6=true/\y.ky 6=true then a0 (decide (x=y)) else a7
abbrev neM:PV->PV->PH->Y4 0:=λx y h=>match x,y with
 |.non,.str _=>a0 true
 |.str a,.str b=>a0 (!decide (a=b))
 |.int a,.int b=>a0 (!decide (a=b))
 |.ref n,.ref m=>(DP h n m).map not
 |.tup xs,.tup ys=>if Tn h xs ys=true then a0 false else a7
 |_,_=>a7
abbrev bK:PV->PV->PH->W_ 0:=λx y h=>ofB (eqM x y h) h
abbrev jJ:PV->PV->PH->W_ 0:=λx y h=>ofB (neM x y h) h
open H in
def IT(t:X.K=C.K)(I:q_ s)(d:m_ h)(k:A.units+40<cLine){x y:V}(e:DP h n m=a0 b)(D:b6 (.ref n) x)(B:b6 (.ref m) y)(J:C_ u)(F:P_ v):
  RcAt A s u v b/\RcNeAt A s u v (!b)/\∃a c,u=.ref a/\v=.ref c:=by
 unfold DP at e;split at e
 ·rename_i S U E Q;let⟨a,vs,rfl,M,r⟩:=dO d D (show fQ _ h=a0 S from E)
  let⟨c,ws,rfl,L,w⟩:=dO d B (show fQ _ h=a0 U from Q)
  cases J;cases F;let⟨T,Y,p,_⟩:=I.list<|t▸M;let⟨i,W,P,_⟩:=I.list<|t▸L;by_cases z:S=U/\S.all (PV.pl 30)=true
  ·rw[YS 0]at e;cases e
   let⟨rfl,q⟩:=z;let⟨l,g⟩:=Cb (R:=λu v=>Yo 0) (λq=>EC t I 30 (by change A.units+1+30<cLine;omega) q) q r w Y W;let G:=λj O N=>by simpa using g j (cA O) (cA N)
   let o:=RcAt.lists p.isList P.isList (by simp[l]) ⋯ G;let f:=RcNeAt.lists p.isList P.isList (by simp[l]) ⋯ G;rw[all_true]at o f;show⟨o,f,a,c,rfl,rfl⟩
  ·rw[Y7 0]at e;split at e
   ·cases e
   ·cases e
    let l1:=r.length.trans Y.length;let l2:=w.length.trans W.length;let Z:(T.toArray.size != i.toArray.size)=true:=by simp;omega
    show⟨RcAt.lists_lengths p.isList P.isList Z ⋯,RcNeAt.lists_lengths p.isList P.isList Z ⋯,a,c,rfl,rfl⟩
 ·cases e
open H in
def Rr(w:X.K=C.K)(I:q_ s)(n:m_ h)(U:A.units+40<cLine){q:PV}{x y:V}(e:lkU h p q=true)(t:Xq x)(Y:b6 q y)(r:C_ u)(R:P_ v):Zv u v true:=by
 unfold lkU at e;split at e
 ·split at e
  ·rename_i S m E o;rw[yq,decide_eq_true_iff]at e;let⟨g,_,a,c,rfl,rfl⟩:=IT w I n U (by unfold DP;rw[E,o];show Yn 0) t Y r R;by_cases z:a=c
   ·rw[z];show δY 0
   ·show EqAt.of_refs z g
  ·cases e
 ·rw[yq,decide_eq_true_iff]at e;let⟨rfl,P⟩:=e;show EC w I 30 ⋯ P t Y r R
open H in
def Rt:A2 (zt .Eq) bK:=λc N s d H x y v u Q I n Y h=>by
 let⟨Z,h,p,q,m,R,o,P⟩:=h;let r:=c.K;let U:=c.hu64;let⟨b,e,P⟩:=P.ofB;let f:RcAt X.A s v u b->wpAny (b8 X) X.A _ (EP X N d Q) X.xe s:=λg=>g _ X.w X.xe _ ⟨.bl b,H,I,rfl,P.val m rfl⟩;refine f ?_;unfold eqM at e;split at e
 ·cases e
  cases R;cases o;let⟨t,rfl⟩:=Y;cases n
  show RcAt.none_str _ _
 ·cases e
  cases R
  let⟨a,V,rfl,j,_⟩:=o;cases n;cases Y;let⟨i,_,l,_⟩:=I.tuple<|r▸j;show RcAt.none_tuple l ⋯
 ·show(IT r I m ⋯ e R o n Y).1
 ·split at e
  ·rename_i z;cases e
   show Dp 6 z.1 z.2 ⋯ (mS I r 6 z.1 R n) (mS I r 6 z.2 o Y)
  ·cases e
open H in
def MW:A2 (zt .NotEq) jJ:=λc b9 s σ H x y v u Q I rx ry h=>by
 let⟨φ,h,p,q,rh,rp,rq,po⟩:=h;let hK:=c.K;let hu:=c.hu64;let⟨b,e,po⟩:=po.ofB;let fin:RcNeAt X.A s v u b->wpAny (b8 X) X.A (zt .NotEq v u) (O_ Q) X.xe s:=λg=>g X.prog X.w X.xe _ ⟨.bl b,H,I,rfl,γJ rfl⟩;refine fin ?_;unfold neM at e;split at e
 ·cases e
  cases rp;cases rq;let⟨t,rfl⟩:=ry;cases rx
  show RcNeAt.none_str _ _
 ·rename_i a b';cases e
  cases rp;cases rq;let⟨t,rfl⟩:=rx;let⟨t',rfl⟩:=ry;have:=RcNeAt.str_str (A:=X.A) (s:=s) a t b' t'
  rwa[show(a == b')=decide (a=b') by simp[Vm]]at this
 ·rename_i a b';cases e
  cases rp;cases rq;let⟨t,rfl⟩:=rx;let⟨t',rfl⟩:=ry;have:=RcNeAt.int_int (A:=X.A) (s:=s) a t b' t'
  rwa[show(a == b')=decide (a=b') by simp[Vm]]at this
 ·let⟨b',e',rfl⟩:=xv.mp e;show(IT hK I rh ⋯ e' rp rq rx ry).2.1
 ·rename_i xs ys;split at e
  ·rename_i z;cases e
   let⟨a,vs,rfl,q1,r1⟩:=rp;let⟨b,ws,rfl,q2,r2⟩:=rq;cases rx;cases ry;let⟨its,v1,p1,_⟩:=I.tuple<|hK▸q1;let⟨ay,v2,p2,_⟩:=I.tuple<|hK▸q2;let⟨l,g⟩:=kA (R:=λu v=>Y5 0) (λe=>Rr hK I rh (by change X.A.units+1+40<cLine;omega) e) z r1 r2 v1 v2;have:=RcNeAt.tuples (A:=X.A) (e:=λ_=>true) p1 p2 ⋯ (λj h1 h2=>by simpa using g j (cA h1) (cA h2))
   rw[all_true]at this;simpa[l] using this
  ·cases e
 ·cases e
abbrev inU(x y:PV)(h:PH):Y4 0:=match G0 y h with
 |some ys=>if x.ky 6=true/\ys.all (PV.ky 6)=true then a0 (decide (x∈ys)) else a7
 |none=>(match y with|.ref n=>Ap h n x|_=>a7).map Option.isSome
abbrev wC(x y:PV)(h:PH):Y4 0:=match mT x y h with
 |some o=>a0 o.isSome
 |none=>inU x y h
abbrev dR:PV->PV->PH->W_ 0:=λx y h=>ofB ((wC x y h).map not) h
open Classical in
def IU(hK:X.K=C.K)(I:q_ s){A:d_}(hu:A.units+7<cLine){p:PV}{x:V}{u:d6}(kp:p.ky 6=true)(rx:Xq x)(r1:C_ u):∀{ys:x_ 0}{vs:i_ V}{us:Xu 0},ys.all (PV.ky 6)=true->εf vs->Z3 0->
  ∃f:d6->Bool,(∀y∈us,Zv y u<|f y)/\us.any f=decide (p∈ys):=by
 intro ys vs us hk rv va;let one:∀{ys:x_ 0}{vs:i_ V}{us:Xu 0},ys.all (PV.ky 6)=true->εf vs->Z3 0->(∀z∈us,∃q∈ys,q.ky 6=true/\z_ q z)/\∀q∈ys,∃z∈us,z_ q z:=by
  intro ys
  induction ys with
  |nil=>intro vs us _ rv va;cases vs with|nil=>cases va;show⟨λ_ h=>(nomatch h),λ_ h=>(nomatch h)⟩|cons _ _=>exact rv.elim
  |cons q ys ih=>
   intro vs us hk rv va;cases vs with
   |nil=>exact rv.elim
   |cons v vs=>
    cases va with
    |cons a1 a2=>
     rw[Ws,yq]at hk;let g:=mS I hK 6 hk.1 rv.1 a1;let⟨i1,i2⟩:=ih hk.2 rv.2 a2;refine⟨λz hz=>?_,λz hz=>?_⟩
     ·rcases wu.mp hz with rfl|hz
      ·show⟨q,wa,hk.1,g⟩
      ·let⟨w,hw,e⟩:=i1 z hz;show⟨w,YI hw,e⟩
     ·rcases wu.mp hz with rfl|hz
      ·show⟨_,wa,g⟩
      ·let⟨w,hw,e⟩:=i2 z hz;show⟨w,YI hw,e⟩
 let⟨i1,i2⟩:=one hk rv va;let gp:=mS I hK 6 kp rx r1;refine⟨λz=>decide (z_ p z),λz hz=>?_,?_⟩
 ·let⟨q,_,kq,g⟩:=i1 z hz;let rc:=Dp 6 (A:=A) kq kp ⋯ g gp;let e:decide (q=p)=decide (z_ p z):=by rw[decide_eq_decide];show⟨λe=>e▸g,λe=>HR.one g e⟩
  rw[e]at rc;show pC rc (λev=>decide_eq_true<|ev▸gp) λf t=>g.noflt f t
 ·rw[Up,List.any_eq_true,decide_eq_true_iff];refine⟨λ⟨z,hz,e⟩=>?_,λhp=>?_⟩
  ·let⟨q,hq,_,g⟩:=i1 z hz;rw[HR.one (of_decide_eq_true e) g];show hq
  ·let⟨z,hz,g⟩:=i2 p hp;show⟨z,hz,decide_eq_true g⟩
open H in
def EM{q:PV}{x y:V}(c:vn X)(I:q_ s)(d:m_ h)(r:Xq x)(R:b6 q y)(T:C_ u)(S:P_ v)(e:wC p q h=a0 b):
  (BY C x y H λ_ o=>o.isSome=b)\/(∃a o,y=.ref a/\δg x o/\o.isSome=b)\/∃(a:d8)(U:Xu 0)(f:d6->Bool),v=.ref a/\(s.heap.IsList a U.toArray\/s.heap.IsTuple a U.toArray)/\(∀z,z∈U.toArray->EqAt X.A.in1 s z u (f z))/\U.toArray.any f=b:=by
 let J:=c.hu64;unfold wC at e;cases w:mT p q h with
 |some o=>
  rw[w]at e;cases e
  show .inl<|vF d r R w rfl
 |none=>
  rw[w]at e;dsimp only at e;unfold inU at e;cases E:G0 q h with
  |none=>
   rw[E]at e;let⟨o,W,rfl⟩:=xv.mp e;cases q with
   |ref n=>let⟨a,rfl,O⟩:=R;let⟨N,g,i,_⟩:=pD d O r W;show .inr<|.inl ⟨a,N,rfl,g,i.symm⟩
   |_=>cases W
  |some L=>
   rw[E]at e;dsimp only at e;split at e
   ·rename_i z;cases e
    refine .inr<|.inr ?_;unfold G0 at E;split at E
    ·cases E
     let⟨a,M,rfl,Q,j⟩:=R;cases S
     let⟨t,Y,P,_⟩:=I.tuple<|c.K▸Q;let⟨f,m,l⟩:=IU c.K I (A:=X.A.in1) (by change X.A.units+1+7<cLine;omega) z.1 r T z.2 j Y;show⟨a,t,f,rfl,.inr P,λz Z=>m z<|cA Z,cA l⟩
    ·let⟨a,M,rfl,Q,j⟩:=dO d R (show fQ _ h=a0 L from E)
     cases S
     let⟨t,Y,P,_⟩:=I.list<|c.K▸Q;let⟨f,m,l⟩:=IU c.K I (A:=X.A.in1) (by change X.A.units+1+7<cLine;omega) z.1 r T z.2 j Y;show⟨a,t,f,rfl,.inl P.isList,λz Z=>m z<|cA Z,cA l⟩
    ·cases E
   ·cases e
def LW(c:vn X):A6 (zt .In) (λx y H Q=>∃J h p q,Xl J H h/\RV C J H p x/\RV C J H q y/\XY J H (ofB (wC p q h) h) Q):=λL s G H x y v u Q I R Y h=>by
 let⟨J,h,p,q,r,i,d,P⟩:=h;let⟨b,e,P⟩:=P.ofB;rcases EM c I r i d R Y e with z|⟨a,o,rfl,g,rfl⟩|⟨a,M,f,rfl,z,t,rfl⟩
 ·refine Li c L s G H x y v u Q I R Y ?_;let⟨w,l,j,n,a,K,Z,W,V,U,T,S,O⟩:=z;show⟨w,l,j,n,a,K,Z,W,V,U,T,S,by dsimp only;rw[O];show X8 rfl⟩
 ·cases Y
  show Sy c.hu I g R λN m=>⟨.bl _,H,m,rfl,X8 rfl⟩
 ·rcases z with z|z
  ·show SeqAt.in_listAt f z t ⟨.bl _,H,I,rfl,X8 rfl⟩
  ·show SeqAt.in_tupleAt f z t ⟨.bl _,H,I,rfl,X8 rfl⟩
def Gq:A2 (zt .NotIn) dR:=λc L s J H x y v u Q I R Y h=>by
 let⟨G,h,p,q,r,i,d,P⟩:=h;let⟨B,E,P⟩:=P.ofB;let⟨b,e,rfl⟩:=xv.mp E;rcases EM c I r i d R Y e with z|⟨a,o,rfl,g,rfl⟩|⟨a,M,f,rfl,z,t,rfl⟩
 ·refine Dt c L s J H x y v u Q I R Y ?_;let⟨w,l,j,n,a,K,Z,W,V,U,T,S,O⟩:=z;show⟨w,l,j,n,a,K,Z,W,V,U,T,S,by dsimp only;rw[O];show X8 rfl⟩
 ·cases Y
  show Kv c.hu I g R λN m=>⟨.bl _,H,m,rfl,X8 rfl⟩
 ·rcases z with z|z
  ·show SeqAt.notIn_listAt f z t ⟨.bl _,H,I,rfl,X8 rfl⟩
  ·show SeqAt.notIn_tupleAt f z t ⟨.bl _,H,I,rfl,X8 rfl⟩
@[simp]theorem Ru{i j:Int}:bK (.int i) (.int j) h=.ok (.bl<|decide (i=j)) h:=by simp[bK,eqM,PV.ky,ofB]
@[simp]theorem Rv{i j:Str}:bK (.str i) (.str j) h=.ok (.bl<|decide (i=j)) h:=by simp[bK,eqM,PV.ky,ofB]
@[simp]theorem Rw{j:Str}:bK .non (.str j) h=.ok (.bl false) h:=rfl
@[simp]theorem Pw:bK .non (.tup xs) h=.ok (.bl false) h:=rfl
def IV(x:xs.all (PV.ky 5)=true)(y:ys.all (PV.ky 5)=true):bK (.tup xs) (.tup ys) h=.ok (.bl<|decide (xs=ys)) h:=by simp[bK,eqM,PV.ky,x,y]
@[simp]theorem Rx{i j:Int}:jJ (.int i) (.int j) h=.ok (.bl<|!decide (i=j)) h:=rfl
@[simp]theorem IW{i j:Str}:jJ (.str i) (.str j) h=.ok (.bl<|!decide (i=j)) h:=rfl
@[simp]theorem IX{j:Str}:jJ .non (.str j) h=.ok (.bl true) h:=rfl
def IY(e1:h[n]?=a0 (.lst xs))(e2:h[m]?=a0 (.lst xs))(e:xs.all (PV.pl 30)=true):jJ (.ref n) (.ref m) h=.ok (.bl false) h:=by simp[jJ,neM,DP,aH,e1,e2,e,ofB]
def IZ(e:h[n]?=a0 (.lst xs))(E:h[m]?=a0 (.lst [])):jJ (.ref n) (.ref m) h=.ok (.bl<|!xs.isEmpty) h:=by cases xs <;> simp[jJ,neM,DP,aH,e,E]
end
abbrev AK(x y:PV)(h:PH):W_ 0:=match x with
 |.int _=>jJ x y h
 |_=>Ox x y h
def Ry{k:Nat}:A2 (zt .NotEq) AK:=λc i s t H x y v u Q I w Y h=>by
 let⟨n,h,p,q,r,R,z,o⟩:=h;unfold AK at o;split at o
 ·show MW c i s t H x y v u Q I w Y ⟨n,h,_,q,r,R,z,o⟩
 ·show Rc c i s t H x y v u Q I w Y ⟨n,h,_,q,r,R,z,o⟩
def J1{i:Int}:AK (.int i) (.int i) h=.ok (.bl false) h:=by simp[AK]
def AL{x:PV}(b:ED x y=true)(e:δZ 190 x y=true):AK x y h=.ok (.bl false) h:=by
 unfold AK;split
 ·cases y <;> cases b
 ·show Lv b e
open PySem
def OU(e:YK n=a0 kvs)(k:(ZL 0).ky 6=true):wC (.tup xs) (.ref n) h=a0 (XS<|.tup xs).isSome:=by
 let K:(ZL 0).isKt=true:=k;have:mT (.tup xs) (.ref n) h=a0 (XS<|.tup xs):=by simp[mT,K,e]
 unfold wC;rw[this]
def Co{ys:yp 0}:wC (.str x) (.tup<|ys.map PV.str) h=a0 (decide (x∈ys)):=by
 let H:(ys.map PV.str).all (PV.ky 6)=true:=xi.mpr λy Y=>by let⟨z,_,rfl⟩:=wo.mp Y;rfl
 simp only[wC,mT,inU,G0,H];simp[PV.ky]
def AM{ys:yp 0}:dR (.str x) (.tup<|ys.map PV.str) h=.ok (.bl<|!decide (x∈ys)) h:=by simp[dR,Co]
def AN{x:PV}(e:h[n]?=a0 (.lst ys))(X:x.ky 6=true)(y:ys.all (PV.ky 6)=true):dR x (.ref n) h=.ok (.bl<|!decide (x∈ys)) h:=by
 let H:mT x (.ref n) h=a7:=by
  have:YK n=a7:=by simp[aX,e]
  simp[mT,this]
 simp[dR,wC,H,inU,G0,aH,e,X,y,ofB]
abbrev cX:PV->PV->PH->W_ 0:=λx y h=>ofB (wC x y h) h
def OV{k:Nat}:A2 (zt .In) cX:=λc=>LW c
def AO(e:YK n=a0 kvs)(k:(ZL 0).ky 6=true):cX (.tup xs) (.ref n) h=.ok (.bl (XS<|.tup xs).isSome) h:=by simp[cX,OU e k,ofB]
def Gr{ys:yp 0}:cX (.str x) (.tup<|ys.map PV.str) h=.ok (.bl<|decide (x∈ys)) h:=by simp[cX,Co,ofB]
open PySem.SeqAt PySem.W
open Classical in
abbrev zG(b:Bool)(ks ys:x_ 0):jh (x_ 0):=if ks.length<1000000/\ks.length=ys.length/\(∃m,m<2/\OkN m ks)/\(∀a∈ks.zip ys,∀c∈ks.zip ys,a.1=c.1->a.2=c.2) then a0 ((WN b<|eY Ww<|ks.zip ys).map (·.2)) else a7
abbrev iK(f:Fn)(b:Bool)(ys:x_ 0):x_ 0->x_ 0->PH->W_ 0
 |[],ks,h=>match zG b ks ys with
  |some zs=>.ok (.ref h.length) (h++[.lst zs])
  |none=>.bad
 |x::xs,ks,h=>(f [x] h).bind λk h1=>iK f b ys xs (ks++[k]) h1
abbrev mZ(f:Fn)(b:Bool)(x:PV)(h:PH):W_ 0:=match(iH x h).or (Lp x h) with
 |some ys=>if ys.length<1000000 then iK f b ys ys [] h else .bad
 |none=>.bad
abbrev pF(f:Fn)(b:Bool)(me:Me):Me:=λδ h=>(me δ h).bind λx h1=>mZ f b x h1
abbrev J2(C:MC)(X:Cx)(b9:List (d8×Obj))(σ:St)(φ:i_ d8)(H:Hp)(f:Fn)(b:Bool)(ys:x_ 0)(Q:VK)(a z:d8)(kS:d8)(e1:Nat)(ks:Xu 0)(e:Nat)(s':d7):Prop:=z<kS/\∃H' φ' h' zs ps,Xd (b9++[(kS,seqObj "list" ks.toArray e),(a,seqObj "list" #[] e1)]) σ H' s'/\φ<+:φ'/\L_ H'/\A3 h'/\aI zs ks/\γQ ps zs/\XY φ' H' (iK f b ys (Zx 0) ps h') Q
def Gs{k:Nat}{st:h_}{q:d8}{f:Fn}{σ:St}{us:i_ V}{Q:VK}(c:vn X)(D:Xe q fd pn)(G:ZE (Yt 1 f))(hj:j+2<=k)(u:εf us)(g:aI us its)(eA:A'=X.A.in1.in1)(fr:∀S,a<=S->X.s₀.heap.objs.size<=S/\S≠X.env.locals/\(∀x c,r_ 0=a0 c->c≠S)/\(∀p∈X.pn++b9,p.1≠S)/\S∉X.fs)(S)(e1)(ks)(e)(s')(y)(J:its[ks.length]?=a0 y)(hJ:Zz a a S e1 ks e s'):
  wpAny (b8 X) A' (call (.ref q) [y]) (λv s=>βH 0=a0 (seqObj "list" ks.toArray e)/\∀(o) E,U9 S s.heap o->o.get? S=a0 (seqObj "list" (ks++[v]).toArray E)->Zz a a S e1 (ks++[v]) E {s with heap:=o}) (λ_ _=>False) s':=by
 subst eA;let⟨Z,H',φ',o,zs,ps,I,pp,tt,rh,rz,rp,B⟩:=hJ;let e7:=(vz.mp J).1;let ja:=g.length;let i':=u.length;let i:ks.length<ys.length:=by simp_all
 let L:=Uc i;let⟨u,hu,ru⟩:=u.at L;let⟨y',Y,U⟩:=g.get hu;rw[J]at Y;cases Y
 rw[drop_cons L]at B;refine Ib c D G ((c.room.mono hj).in1.in1) I I.env0.in1.in1 U rh (ru.mono pp tt) B λv D x2 M T p2 h2 r W P t R d O=>?_;let m:=r.pin _<|v9 _<|v9 _ wa;let ga:=r.pin _<|v9 _<|v9 _<|wb _ wa;refine⟨m.1,λg E sb l=>?_⟩;let F:=fr S<|zi Z;let N:=xj Z;let I3:Xd _ σ M D:=r.pins_of λp h=>(wg.mp h).elim (λz=>r.pin p<|v9 _<|xr _ z) λz=>by rw[wx.mp z];show ga
 let n:=I3.turned (t':=D.toks) (λb' o' hb hq=>(sb.2 b' hb).trans hq) m.2.1 F.2.1 (.inr F.1) F.2.2.1 (λp h=>by
  rcases wg.mp h with h|h
  ·show F.2.2.2.1 p (xr _ h)
  ·rcases wg.mp h with h|h
   ·show F.2.2.2.1 p (v9 _ h)
   ·rw[wx.mp h];show N)
 refine⟨Z,M,T,h2,zs++[x2],ps++[p2],n.pins_of λp h=>?_,pp.trans P,tt.trans t,R,rz.append<|.cons W .nil,(rp.mono P t).snoc d,?_⟩
 ·rcases wg.mp h with h|h
  ·show n.pin p (v9 _<|xr _ h)
  ·rcases wu.mp h with rfl|h
   ·show⟨l,m.2.1,F.2.1,F.2.2.2.2,eK⟩
   ·rw[wx.mp h];show n.pin _<|v9 _<|v9 _ wa
 ·rw[wq];show O
open H in
def DQ{k:Nat}{st:h_}{q:d8}{f:Fn}(c:vn X)(D:Xe q fd pn)(G:ZE (Yt 1 f))(hj:j+2<=k)(mz:∀v,argsOk "sorted" ⟨[v],kw⟩)(U:∀v,argsOk "list.sort" ⟨[.ref v],kw⟩)(ht:∀v,Builtin.«list.sort» ⟨[.ref v],kw⟩=ksk_tree v (.ref q) b){σ:St}{Q:VK}{v:V}(I:q_ s)(ru:WV u)(h:r1 C (mZ f b) v H Q):
  wpAny (b8 X) X.A (call (.builtin "sorted") [u] kw) (O_ Q) X.xe s:=by
 let⟨φ,h,p,rh,rp,po⟩:=h;unfold mZ at po;cases E:(iH p h).or (Lp p h) with
 |none=>rw[E]at po;show po.elim
 |some ys=>
 rw[E]at po;let⟨fi,po⟩:=po.ite;refine YL (mz u) ?_;unfold Builtin.«sorted»;refine vy (m:=checkCount "sorted" 1 1 _)<|v8 ?_;let col:wpAny (b8 X) X.A.in1 (collect u) (λt z=>∃x,q_ z/\aI x t/\εf x) X.xe s:=by
  let g:∀{a:d8}{vs:i_ V},v=.ref a->ZV vs->εf vs->wpAny (b8 X) X.A.in1 (collect u) (λt z=>∃x,q_ z/\aI x t/\εf x) X.xe s:=λ{a vs} Y sa ra=>by
   subst Y;cases ru
   let mn:YQ a vs:=by rw[c.K];show sa
   let⟨t,rv,pl,hz⟩:=I.list mn;refine collect_list pl.isList ?_ (by have:=rv.length;have:=ra.length;rw[Uu];omega);show⟨vs,I.kept (t':=s.toks) λb o e=>by
    let e7:b<((s).heap.objs.size):=wt e
    first
     |(rw[γF<|xj e7,δ6<|xj e7];show e)
     |exact W4 e,rv,ra⟩
  cases l:iH p h with
  |none=>
   rw[l,Option.none_or]at E;unfold Lp at E;split at E
   ·rename_i n;split at E
    ·rename_i d hv;split at E
     ·rename_i hd;cases E
      let⟨a,Y,ha⟩:=rp;subst Y;cases ru
      let⟨bb,hb,hH⟩:=αw hv;let⟨ks,vm,rk⟩:=rh.at' d bb _ hb hd;cases rk
      let⟨_,_,vs,rel,dd⟩:=γc vm;cases rel
      let⟨ep,D'⟩:=dd.dictAt;refine PySem.W.kdx_collect (A:=X.A.in1) (ep:=ep) (XT 0) (α8 hH).1 D' (zk _) λh' tk as kp hl hG=>?_;cases as with
      |nil=>exact⟨[],I.kept (t':=tk) kp,.nil,trivial⟩
      |cons _ _=>cases hl
     ·cases E
    ·cases E
   ·cases E
  |some ox=>
  rw[l,Option.some_or]at E;cases E
  unfold iH at l;split at l
  ·rename_i n;split at l
   ·rename_i ox e;cases l
    let⟨a,Y,ha⟩:=rp;let⟨a2,vs,U,sa,ra⟩:=bU rh e;rw[ha]at U;cases U;show g Y sa ra
   ·unfold iF at l;split at l
    ·rename_i d hv;let⟨a,Y,ha⟩:=rp;subst Y;cases ru
     let⟨bb,hb,hH⟩:=αw hv;let⟨hT,hm,hz,oc,S,ep,g1,g2,ws,r1,r2⟩:=vI c I rh hb l;let qq:s.heap.IsValuesView a bb:=(α8 hH).1;let hn:S.size<=w9:=by
      let T:=r1.length;let e2:ws.length=S.size:=by have:=r2.length;simpa using this
      rw[<-e2,<-T];show hz
     refine PySem.W.kdu_collect (BK (r:=a) g2) (XT 0) ⟨qq,g1⟩ hn λh' tk acc hk ei=>?_;show⟨ws,I.kept (t':=tk) hk,by rw[C1 ei];show r2,r1⟩
    ·cases l
  ·cases l
   let⟨a,vs,Y,sa,ra⟩:=rp;show g Y sa.sq ra
  ·cases l
 refine vy<|U8 col (λt z hh=>?_) λ_ _ z=>z;let⟨x,I1,rv,ry⟩:=hh;let ja:x.length=t.length:=rv.length;let i':ys.length=x.length:=ry.length;let rg:=i'.trans ja;refine vy (wpAny_newList ?_ (by rw[Uu];omega));let j0:(z.heap.push<|seqObj "list" t.toArray 0).get? z.heap.objs.size=a0 (seqObj "list" t.toArray 0):=XO rfl;let keep:∀b o,z.heap.get? b=a0 o->b≠z.heap.objs.size/\(z.heap.push<|seqObj "list" t.toArray 0).get? b=a0 o:=λb o q=>⟨xj<|wt q,W4 q⟩;let fr:∀k,z.heap.objs.size<=k->X.s₀.heap.objs.size<=k/\k≠X.env.locals/\(∀x c,r_ 0=a0 c->c≠k)/\(∀p∈X.pn++b9,p.1≠k)/\k∉X.fs:=λk hk=>C8 I1 hk
 change X1 { z with heap:=z.heap.push (seqObj "list" t.toArray 0)}
 refine vy<|Io<|wpAny_call_entry_kw slot_list_sort ⟨_,j0,rfl⟩ entry_list_sort ?body<|U _
 case body=>
  change wpAny (b8 X) X.A.in1.in1 (Builtin.«list.sort» ⟨[.ref z.heap.objs.size],kw⟩) _ _ _
  rw[ht z.heap.objs.size];refine uY (s:={ z with heap:=z.heap.push (seqObj "list" t.toArray 0)}) (a:=z.heap.objs.size) (κ:=tuples' true) (vs:=t) j0 ⋯ (Zz z.heap.objs.size z.heap.objs.size) ?h0 ?en ?turn ?fin
  case h0=>
   intro k T h' kp hk g1 g2;let e9:z.heap.objs.size<k:=by have:(z.heap.push<|seqObj "list" t.toArray 0).objs.size<=k:=hk;rw[zf]at this;show this
   let I2:q_ { z with heap:=h'}:=I1.kept (t':=z.toks) λb o q=>kp b o (keep b o q).1 (keep b o q).2;let fk:=fr k<|zi e9;let fa:=fr z.heap.objs.size<|wj _;refine⟨e9,H,φ,h,[],[],I2.pins_of λp hp=>?_,wm,δP 0,rh,.nil,trivial,po⟩;rcases wg.mp hp with hp|hp
   ·show I2.pin p (v9 _ hp)
   ·rcases wu.mp hp with rfl|hp
    ·show⟨g2,I1.hok.fresh<|zi e9,fk.2.1,fk.2.2.2.2,eK⟩
    ·rw[wx.mp hp];show⟨g1,I1.hok.fresh<|wj _,fa.2.1,fa.2.2.2.2,eK⟩
  case en=>rintro k T ks e s' ⟨hz,H',φ',h',zs,D,I',_⟩;show⟨zr hz,(I'.pin (z.heap.objs.size,seqObj "list" #[] T)<|v9 _<|v9 _<|wb _ wa).1,(I'.pin (k,seqObj "list" ks.toArray e)<|v9 _<|v9 _ wa).1⟩
  case turn=>intro k T ks e s' y hy hJ;show Gs c D G hj ry rv rfl fr k T ks e s' y hy hJ
  case fin=>
   rintro k T ks e s' hl ⟨hz,H',φ',h',zs,D,I',pp,tt,gj,rz,rp',y⟩;let hd:Zx 0=[]:=List.drop_eq_nil_of_le<|Nat.le_of_eq<|rg.trans hl.symm;rw[hd]at y;unfold iK at y;cases S:zG b D ys with
   |none=>rw[S]at y;show y.elim
   |some out=>
   rw[S]at y;unfold zG at S;split at S
   ·rename_i hc;let⟨sy,ik,⟨m,hm,d⟩,my⟩:=hc;let em:decide (m≠2)=true:=decide_eq_true<|xj hm;cases S
    let ui:D.length=zs.length:=rp'.length;let vf:zs.length=ks.length:=rz.length;let hu:=c.hu64;let hr:HRs s'.heap D ks:=tR I' c.K 20 d.ky rp' rz;let memD:∀i,i<t.length->D.getD i .non∈D:=λi Z=>by
     let h1:i<D.length:=⋯;have:D.getD i .non=D[i]:=by simp[h1]
     rw[this];show xt h1
    refine⟨λi j=>ltN (D.getD i .non)<|D.getD j .non,λi j k Z hj hk h1 h2=>Dz h1 h2,λi j Z hj h=>DA h,λh2 Q' E' hq=>?_,λi j Z hj Q' hq=>?_,λp g e2 a1 a2 kp he gk=>?_⟩
    ·show Ez d.m3 hr d.fk ⋯ (em▸hq)
    ·let mi:=memD i Z;let mj:=memD j hj;let⟨bb,hb⟩:=y4.mp<|d.lt _ mi _ mj;let hq:Q' (ltN (D.getD i .non)<|D.getD j .non) s':=hq;rw[AA hb]at hq;let⟨qs,eq,_⟩:=AB d.m3<|d.fk _ mj;let⟨vi,eu,nt⟩:=AB d.m3<|d.fk _ mi;show C3 (n:=19) (by change X.A.units+1+1+19<cLine;omega) (d.ky _ mi) (d.ky _ mj) ⟨vi,eu,λ_=>nt em⟩ ⟨qs,eq⟩ (hr.getD ⋯) (hr.getD ⋯) hb hq
    ·let dy:∀i∈p,i<t.length:=λi Z=>by simpa using a1.mem_iff.mp Z
     let fa:=fr z.heap.objs.size<|wj _;let fk:=fr k<|zi hz;let jq:=I'.pin (z.heap.objs.size,seqObj "list" #[] T)<|v9 _<|v9 _<|wb _ wa;let I5:β5 s':=I'.unpinned;let I6:=I5.adopt (a:=z.heap.objs.size) (d:=k) (o:=.lst<|p.map λi=>x.getD i .non) (h':=g) jq.2.1 (I'.pin (k,seqObj "list" ks.toArray e)<|v9 _<|v9 _ wa).2.1 fa fk (λx o h1 h2 q=>kp x o h1 h2 q) (by refine⟨?_,p.map<|λi=>t.getD i zc,e2,rB rv (λi Z=>by have:=dy i Z;omega),he⟩;rw[wd,a1.length_eq,Wr,Uu];omega)
     refine⟨_,rfl,v8 ⟨_,rfl,.ref z.heap.objs.size,_,I6,rfl,?_⟩⟩;refine y.lnew gj ?_ jq.2.1;rw[<-sQ (b:=b) ik d my (p:=p) (by rw[i',ja];show a1) a2];show(ry.mono pp tt).pick (λi Z=>by have:=dy i Z;omega)
   ·cases S
section
variable{st:h_}{q:d8}{jb:Nat}{f:Fn}{p rp fc:Pos}
def Gu{Q:VK}{σ:St}(h:rd C (pF f b me) σ H Q):GT (rd C me) GS σ H λs y=>∃x,s=[x]/\r1 C (mZ f b) x y Q:=by let⟨o,t,h,u,e,p⟩:=h;refine⟨o,t,h,u,e,(Yh 0).imp ?_⟩;rintro v y ⟨z,x,w,P,T,r,R,q⟩;show⟨v,rfl,z,w,x,r,R,q⟩
def LX{k:Nat}(D:δ7 pn)(G:ZE (Yt 1 f))(E:c_ e me)(hb:("sorted" : Str)∈C.bs)(J:j+2<=k:=by decide)(y:Yu "sorted" := by rfl)(g:Yu kf:=by rfl)(d:(kf == ("__debug__" : Str))=false:=by decide)(t:xq [e] X.env=(false,xl 0)::xq [] X.env:=by rfl)(b:As (xq [e] X.env)=(false,xl 0)::As (xq [] X.env):=by rfl)(l:(As<|xq [e] X.env).any (·.1)=false:=by rfl):
  c_ (.Call (.Name "sorted" p) [e] [⟨a0 "key",.Name kf kp,cy⟩] pos) (pF f false me):=λc i s n H Q I h=>by
 refine Uv (jF I y (c.bn _ hb) PyProof.Rows.Boot.«sorted» ?_ (by decide) (by decide));refine callWith_kw (thn (tL (E c) zT t pos i s n H _ I<|Gu h) λU S o=>?_) b l;let⟨a,m,z,V,x,rfl,r⟩:=o;let⟨u,rfl,R⟩:=vals1 V;refine kws_cons<|kK z g D.mg (kws_nil ?_) d
 change W0 (call _ [u] [(xm "key",.ref q)]) _ _ _
 show DQ c D G J (λv=>ksk_s1 _ _) (λv=>ksk_l1 _ _) (λv=>ksk_t1 _ _) z R r
end
variable{sh:i_ Bool}
section
variable{α:Type}{key:α->XQ 0}
def wD:∀{a b:XQ 0},shape a=shape b->ltL (ltP 19) (a.map kP) (b.map kP)=a0 (cJ a b)
 |[],[],_=>rfl
 |[],_::_,h=>nomatch h
 |_::_,[],h=>nomatch h
 |x::s,y::Y,h=>by
  unfold shape at h;rw[xg,xg,List.cons.injEq]at h;let I:=wD h.2;unfold cJ;rw[xg,xg,ltL];by_cases e:x=y
  ·rw[Yn 0,if_pos<|by rw[e]];show I
  ·rw[W5 0];cases x with
   |inl i=>
    cases y with
    |inl j=>rw[if_neg<|λz=>e (by cases z;rfl)];rfl
    |inr j=>cases h.1
   |inr i=>
    cases y with
    |inl j=>cases h.1
    |inr j=>rw[if_neg<|λz=>e (by cases z;rfl)];rfl
def J3(h:∀k∈ai,shape k=b::sh):∃m,m<2/\OkN m (ai.map tP):=by
 let l:∀(P:PV->Prop),(∀k∈ai,P _)->∀x∈ai.map tP,P x:=λP h x X=>by let⟨k,H,rfl⟩:=wo.mp X;show h k H
 refine⟨if b=true then 0 else 1,by split <;> decide,⟨by split <;> decide,l _ λk _=>?_,l _ λk H=>?_,l _ λa A=>l _ λc C=>?_⟩⟩
 ·change(k.map kP).all _=true
  rw[xi];intro x X;let⟨y,_,rfl⟩:=wo.mp X;cases y <;> rfl
 ·have:=h k H;cases k with
  |nil=>cases this
  |cons x s=>cases x <;> (cases this;rfl)
 ·change(ltL (ltP 19) _ _).isSome=true
  rw[wD<|(h a A).trans (h c C).symm];rfl
def J4{a b:XQ 0}(h:shape a=shape b):ltN (tP a) (tP b)=cJ a b:=AA (n:=20)<|wD h
def EN{f:Fn}{b:Bool}{emb:α->PV}{ys zs:x_ 0}{Q:PV->PH->Prop}:∀(r done:ZH 0)(h),(∀d∈r,∀h(Q),(∀H,tx H->Q (tP<|key d) H)->(f [emb d] h).W Q)->
  zG b ((done++r).map λd=>tP<|key d) ys=a0 zs->(∀H,tx H->Q (.ref H.length) (H++[.lst zs]))->(iK f b ys (r.map emb) (done.map λd=>tP<|key d) h).W Q
 |[],done,h,_,s,k=>by rw[Ua]at s;simp[List.map_nil,iK,s,BS];show k h<|Ext.refl h
 |x::r,done,h,F,s,k=>by rw[xg];unfold iK;rw[rD];refine F x wa h _ λz X=>?_;rw[show(done.map λd=>tP _)++[tP _]=(done++[x]).map λd=>tP (key d) by simp];show EN r _ z (λd D=>F d (YI D)) (by rw[wy];show s) λH y=>k H (X.trans y)
def OW{a b:XQ 0}(e:tP a=tP b):a=b:=by
 let h:yR [tP a]=a0 [a]:=vG [a];rw[e,show yR [tP b]=a0 [b] from vG [b]]at h
 cases h
 rfl
def Cp{β:Type}{f:α->β}{q:β->PV}(x:α):∀s,pE q (f x) (s.map f)=(pE (λa=>q<|f a) x s).map f
 |[]=>rfl
 |y::s=>by rw[xg];unfold pE;rw[Cp x s];split <;> rfl
def zH{β:Type}{f:α->β}{q:β->PV}:∀s,eY q (s.map f)=(eY (λa=>q<|f a) s).map f
 |[]=>rfl
 |x::s=>by
  change pE q (f x) (eY q _)=_
  rw[zH s];show Cp x _
def AQ{f:Fn}{emb:α->PV}{xs:ZH 0}{x:PV}{Q:PV->PH->Prop}(e:iH x h=a0 (δl 0))(h1:xs.length<1000000)(h3:Ay (δk 0)=true)(hs:∀x∈xs,shape (key x)=S)(h4:(δk 0).Nodup)(hf:∀d∈xs,∀h(Q:PV->PH->Prop),(∀h',tx h'->Q (tP<|key d) h')->(f [emb d] h).W Q)(k:∀(os:ZH 0) h',tx h'->os.Perm xs->os.Pairwise (λp q=>(if b then cJ (key p) (key q) else cJ (key q) (key p))=false)->Q (.ref h'.length) (h'++[.lst<|os.map emb])):(mZ f b x h).W Q:=by
 unfold mZ;rw[e,Option.some_or];dsimp only;rw[if_pos<|cA h1];let⟨bb,sh,hsh⟩:=Dw h3;let sx:∀y∈xs,∀z∈xs,shape (key y)=shape (key z):=λy hy z hz=>(hs y hy).trans (hs z hz).symm;let ez:(xs.map λd=>tP<|key d).zip (δl 0)=xs.map λd=>(tP<|key d,emb d):=List.zip_map';let hp:=iG (λd=>tP<|key d) xs;let hz:zG b (xs.map λd=>tP<|key d) (δl 0)=a0 ((WN b<|eY (λd=>tP<|key d) xs).map emb):=by
  unfold zG;refine(if_pos ⟨cA h1,by simp,(yg (f:=key) (g:=tP) (l:=xs)▸J3 hsh :),λa ha c hc e=>?_⟩).trans ?_
  ·rw[ez,zH];cases b with
   |false=>exact αR<|yg ..
   |true=>exact αR (by change((List.map _ _).reverse).map _=_;rw[<-List.map_reverse,yg];rfl)
  ·rw[ez]at ha hc;let⟨y,hy,rfl⟩:=wo.mp ha;let⟨z,hz,rfl⟩:=wo.mp hc;let q:=(yW (l:=xs.map λd=>(key d,emb d)) (by rw[yg];show h4) (wo.mpr ⟨y,hy,rfl⟩) (wo.mpr ⟨z,hz,rfl⟩)<|OW e);show congrArg (λz=>z.2) q
 let hq:=(gS (λd=>tP<|key d) xs).imp_of_mem λ{y z} hy hz h=>(J4<|sx z (hp.mem_iff.mp hz) y<|hp.mem_iff.mp hy).symm.trans h;refine EN xs [] h hf hz λh' hx=>k _ h' hx ?_ ?_
 ·cases b with
  |false=>exact hp
  |true=>exact(Uq _).trans hp
 ·cases b with
  |false=>exact hq
  |true=>exact Ug.mpr hq
end
@[simp]theorem Px{m:Me}{f:Fn}:pF f b m δ h=(Xn h).bind λx h1=>mZ f b x h1:=rfl
end _L
namespace _K
open PySem _L
local macro_rules|`(d3 $x)=>`(mC (.int $x))
noncomputable section
abbrev rO:Ms:=
 (aG (bG (aR (aB vLt (mV 1) (βt (aA (mV 0) aC))))
  (aP<|aB vAt (mV 0)<|mV 1)
  bP)
 (aP (d3 0)))
abbrev oK:Fn:=mFn 2 rO
abbrev pG:Ms:=
 (aG (aY 3 (Ya (Xj (Xj (aB Al (mV 3) (mV 3)) (aB Al (d3 48271) (mV 3))) (mV 4)) (d3 2147483647)))
  (iU (δ8 (onL bA) (mV 2) (aA (mV 3) aC))))
abbrev wF:Ms:=
 (aG (aY 2 (cO aC))
 (aG (aY 3 (Xj (Ya (mV 0) (d3 2147483647)) (d3 48271)))
 (aG (dH (mQ (aA (Xj (mV 1) (d3 1)) aC)) (gN 4) pG)
 (aP (mSl (mV 2) (mP (d3 1)) mG)))))
abbrev nB:Fn:=mFn 5 wF
abbrev AR:Ms:=
 (aG (aY 2 (mC (.str "abcdefghijklmnopqrstuvwxyz")))
 (aG (aY 3 (aW 2 nB (aA (mV 0) (aA (d3 10) aC))))
 (aG (aY 4 (mMt LC vQ (mC (.str "")) (aA (bB [a7,a0 2] (aV (mSl (mV 3) mG (mP (d3 8)))) (gN 0) dQ (b7 (mV 1) (Ya (mV 0) (d3 26)))) aC)))
 (aG (bG (aR (W7 (Ya (mV 0) (d3 3)) (d3 0)))
  (aP<|bB [a7,a0 4,a0 3] (mQ<|aA (mV 1) aC) (gN 0) dQ<|mSl (mV 1) mG<|mP<|aB aL (d3 1)<|aB cK (Xj (mV 0)<|aB vAt (mV 2)<|d3 8)<|d3 8)
  bP)
 (aG (aY 4 (mSl (mV 4) mG (mP (Xj (d3 1) (Ya (b7 (mV 3) (d3 8)) (d3 8))))))
 (aG (aY 5 (Ya (b7 (mV 3) (d3 9)) (βt (aA (mV 4) aC))))
 (aP (bB [a7,a0 4,a0 2,a0 5,a0 3] (mQ (aA (mV 1) aC)) (gN 0) dQ (Xj (Xj (mSl (mV 1) mG (mP (mV 3))) (b7 (mV 2) (Ya (Xj (aB An (b7 (mV 4) (d3 9)) (d3 8)) (aB Al (d3 5) (mV 0))) (d3 26)))) (mSl (mV 1) (mP (Xj (mV 3) (d3 1))) mG))))))))))
abbrev AS:Fn:=mFn 6 AR
abbrev wG:Ms:=
 (aG (bG (aR (aB vGt (Ya (mV 0) (d3 3)) (d3 0)))
  (aP<|aB Aj (Ya (aB An (mV 0)<|d3 3)<|d3 5)<|d3 2)
  bP)
 (aP (Xj (aB Aj (Ya (mV 1) (aB Aj (aB Al (d3 2) (aB FY (d3 10) (d3 40))) (d3 1))) (aB FY (d3 10) (d3 40))) (d3 1))))
abbrev nC:Fn:=mFn 2 wG
abbrev pH:Ms:=
 (aG (aY 3 (b7 (mV 2) (Ya (b7 (mV 0) (d3 3)) (βt (aA (mV 2) aC)))))
 (aG (aY 4 (b7 (mV 2) (Ya (b7 (mV 0) (d3 4)) (βt (aA (mV 2) aC)))))
 (aG (bG (aR (aB vLt (Ya (b7 (mV 0) (d3 1)) (d3 10)) (d3 6)))
  (aP<|aT<|aA (mC<|.str "write")<|aA (mV 1)<|aA (mV 3)<|aA (aB Aj (d3 1)<|aB Al (Ya (b7 (mV 0)<|d3 5)<|d3 2)<|d3 2)<|aA (b7 (cO<|aA (mC<|.str "x")<|aA (mC<|.str "yz")<|aA (mC<|.str "a b") aC)<|aB cK (b7 (mV 0)<|d3 6)<|d3 3) aC)
  bP)
 (aG (bG (aR (W7 (Ya (b7 (mV 0) (d3 1)) (d3 10)) (d3 6)))
  (aP<|aT<|aA (mC<|.str "cut")<|aA (mV 1)<|aA (mSl (aT<|aA (mV 3)<|aA (mV 4) aC) mG<|mP<|aB aL (d3 1)<|aB cK (b7 (mV 0)<|d3 5)<|d3 2) aC)
  bP)
 (aG (aY 5 (b7 (cO (aA (mC (.str "bold")) (aA (mC (.str "b")) (aA (mC (.str "bo")) aC)))) (Ya (b7 (mV 0) (d3 5)) (d3 3))))
 (aG (bG (aR (aB vLt (Ya (b7 (mV 0) (d3 1)) (d3 10)) (d3 9)))
  (aP<|aT<|aA (mC<|.str "mark")<|aA (mV 1)<|aA (mCB sS<|aA (mV 3)<|aA (mV 4) aC)<|aA (mCB sT<|aA (mV 3)<|aA (mV 4) aC)<|aA (mV 5) aC)
  bP)
 (aP (aT (aA (mC (.str "clear")) (aA (mV 1) (aA (mCB sS (aA (mV 3) (aA (mV 4) aC))) (aA (mCB sT (aA (mV 3) (aA (mV 4) aC))) (aA (mV 5) aC)))))))))))))
abbrev lF:Fn:=mFn 6 pH
abbrev J5:Ms:=
 (aG (aY 4 (Ya (b7 (mV 0) (d3 2)) (d3 4)))
 (aG (aY 5 (aT (aA (b7 (mV 2) (d3 0)) (aA (Xj (d3 1) (mV 4)) aC))))
 (aG (bG (aR (W7 (Ya (b7 (mV 0) (d3 9)) (d3 8)) (d3 5)))
  (aY 5<|aB vAt (cO<|aA (aT<|aA (mC<|.str "")<|aA (d3 0) aC)<|aA (aT<|aA (b7 (mV 2)<|d3 0)<|aA (Xj (d3 1)<|aB cK (aB An (b7 (mV 0)<|d3 9)<|d3 8)<|d3 4) aC)<|aA (aT<|aA (b7 (mV 2)<|d3 0)<|aA (aB FY (d3 10)<|d3 9) aC) aC)<|aB cK (aB An (b7 (mV 0)<|d3 9)<|d3 32)<|d3 3)
  bP)
 (aG (aY 6 (aW 2 nC (aA (b7 (mV 0) (d3 3)) (aA (mV 1) aC))))
 (aG (bG (aR (W7 (mV 4) (d3 0)))
  (aP<|aT<|aA (mC<|.str "add")<|aA (mV 5)<|aA (mV 6) aC)
  bP)
 (aG (bG (aR (W7 (mV 4) (d3 1)))
  (aP<|aT<|aA (mC<|.str "choose")<|aA (mV 5)<|aA (mV 6) aC)
  bP)
 (aG (bG (aR (W7 (mV 4) (d3 2)))
  (aP<|aT<|aA (b7 (cO<|aA (mC<|.str "put")<|aA (mC<|.str "take") aC)<|aB cK (b7 (mV 0)<|d3 1)<|d3 2)<|aA (mV 5)<|aA (mV 6) aC)
  bP)
 (aP (aW 3 lF (aA (mV 0) (aA (mV 5) (aA (mV 3) aC))))))))))))
abbrev EO:Fn:=mFn 7 J5
abbrev pI:Ms:=
 (aG (aY 2 (Xj (mV 2) (aT (aA (aT (aA (d3 1) (aA (b7 (mV 0) (d3 0)) (aA (b7 (mV 0) (d3 1)) (aA (mV 4) aC))))) aC))))
  (iU (δ8 (onL bA) (mV 3) (aA (mV 2) aC))))
abbrev wH:Ms:=
 (aG (aY 2 (Xj (b7 (mV 1) (d3 2)) (aT (aA (aT (aA (b7 (mV 1) (d3 3)) (aA (b7 (mV 0) (d3 0)) (aA (b7 (mV 0) (d3 1)) (aA (d3 0) aC))))) aC))))
 (aG (aY 3 (cO (aA (mV 2) aC)))
 (aG (dH (qG (aA (d3 1) (aA (βt (aA (b7 (mV 1) (d3 4)) aC)) aC))) (gN 4) pI)
 (aP (mV 3)))))
abbrev kD:Fn:=mFn 5 wH
abbrev oM:Ms:=
 (aG (aY 6 (mSl (aT (aA (aT (aA (b7 (mV 1) (d3 0)) (aA (mV 5) aC))) aC)) mG (mP (mV 5))))
  (aG (aY 7 (aT (aA (mC (.str "make")) (aA (b7 (cO (aA (mC (.str "count")) (aA (mC (.str "choice")) (aA (mC (.str "bag")) (aA (mC (.str "text")) aC))))) (mV 5)) (aA (aT (aA (mC (.str "")) (aA (d3 0) aC))) (aA (mC (.str "k")) aC))))))
  (iU (δ8 (onL bA) (mV 2) (aA (aT (aA (aT (aA (b7 (mV 1) (d3 0)) (aA (Xj (mV 5) (d3 1)) aC))) (aA (mV 6) (aA (mV 7) aC)))) aC)))))
abbrev kE:Ms:=(kC (Ya (b7 (mV 9)<|aB aL (d3 10)<|mV 5)<|aB aL (mMt cF qL (mV 3)<|aA (b7 (mV 1)<|mV 5)<|aA (d3 0) aC)<|d3 1) (mV 6)<|aB vAt (mV 1)<|mV 5)
abbrev rP:Ms:=
 (aG (aY 9 (aW 2 nB (aA (mV 8) (aA (d3 13) aC))))
  (aG (aY 10 (b7 (mV 1) (Ya (b7 (mV 9) (d3 0)) (βt (aA (mV 1) aC)))))
  (aG (aY 6 (rN (b7 (mV 1) (d3 0)) (Xj (d3 4) (Ya (b7 (mV 9) (d3 10)) (aB Aj (b7 (mV 3) (b7 (mV 1) (d3 0))) (d3 3))))))
  (aG (dH (qG (aA (d3 1) (aA (βt (aA (mV 1) aC)) aC))) (gN 5) kE)
  (aG (kC (mMt cF qL (mV 3) (aA (mV 10) (aA (d3 0) aC))) (mV 6) (mV 10))
  (aG (aY 11 (aT (aA (mV 10) (aA (Xj (b7 (mV 6) (mV 10)) (d3 1)) aC))))
  (aG (kC (b7 (mV 11) (d3 1)) (mV 3) (mV 10))
  (aG (aY 7 (aW 4 EO (aA (mV 9) (aA (mV 8) (aA (mV 1) (aA (mV 4) aC))))))
  (aG (bG (aR (W7 (b7 (mV 7) (d3 0)) (mC (.str "write"))))
   (aY 4<|aB aL (mV 4)<|aW 2 kD<|aA (mV 11)<|aA (mV 7) aC)
   bP)
  (iU (δ8 (onL bA) (mV 2) (aA (aT (aA (mV 11) (aA (mCB mO (aA (bB [a7,a0 6] (aV (mCB kU (aA (mV 1) aC))) (gN 0) (aR (aB vGt (b7 (mV 1) (mV 0)) (d3 0))) (aT (aA (mV 0) (aA (b7 (mV 1) (mV 0)) aC)))) aC)) (aA (mV 7) aC)))) aC))))))))))))
abbrev AU:Ms:=
 (aG (aY 2 (cO aC))
 (aG (aY 3 (rN (b7 (mV 1) (d3 0)) (d3 4)))
 (aG (aY 4 (cO (aA (aT (aA (aT (aA (d3 1) (aA (b7 (mV 1) (d3 0)) (aA (aB FY (d3 10) (d3 6)) (aA (d3 0) aC))))) aC)) aC)))
 (aG (dH (mQ (aA (d3 4) aC)) (gN 5) oM)
 (aG (dH (aV (mV 0)) (gN 8) rP)
 (aP (mV 2)))))))
abbrev AV:Fn:=mFn 12 AU
abbrev fZ:Ms:=
 (aG (cN "made" (mV 0) kQ)
 (cN "failed" (mV 0) (cO aC)))
abbrev gG:Fn:=Yb fZ
abbrev oY:Ms:=lZ
abbrev nD:Ms:=
 (aG (cN "made" (mV 0) kQ)
 (aG (dH (aV (mV 1)) (gTp 4 (gCn (gN 3) (gCn (gN 4) (gCn (gN 5) (gCn (gN 6) gNl))))) oY)
 (cN "failed" (mV 0) (mCB fC (aA (mV 2) aC)))))
abbrev nE:Fn:=mFn 7 nD
abbrev ES:Str->jh Fn:=λ(z:Str)=>if z=("Tree" : Str) then a0 nE else(λ_=>a7) z
abbrev fV:Ms:=
 (aG lZ
  lZ)
abbrev eC:Ms:=
 (aG (jZ (mV 1) (δb (gCn (gN 2) (gCn (gN 3) gNl))))
 (aG (cN "tree" (mV 0) (gL "Tree" 0 gG aC))
 (aG (iU (bM "fill" 2 ES (mUn (aU "tree") (mV 0)) (aA (bB [a7] (aV (mV 2)) (gN 0) dQ (mSl (mV 0) mG (mP (d3 4)))) (aA (mV 3) aC))))
 (aG (cN "leaves" (mV 0) kQ)
 (dH (aV (mV 2)) (gTp 5 (gCn (gN 4) (gCn (gN 5) (gCn (gN 6) (gCn (gN 7) (gCn (gN 8) gNl)))))) fV)))))
abbrev eE:Fn:=mFn 9 eC
abbrev tU:Ms:=(aP<|aB aL (d3 1)<|mCB Ds<|aA (bB [a7] (aV<|aB vAt (mV 0)<|d3 1) (gN 0) dQ<|aB vAt (mV 0)<|d3 1) aC)
abbrev AW:Fn:=Yb tU
abbrev DR:Ms:=
 (aG (jZ (b7 (mV 0) (d3 0)) (δb (gCn (gN 1) (gCn (gN 2) gNl))))
 (aP (aT (aA (aW 1 AW (aA (mV 0) aC)) (aA (mV 1) (aA (mV 2) aC))))))
abbrev DS:Fn:=mFn 3 DR
abbrev lH:Ms:=(kC (mV 2) (mV 1)<|aB vAt (mV 2)<|d3 0)
abbrev pJ:Ms:=
 (aG (aY 1 kQ)
 (aG (dH (aV (mV 0)) (gN 2) lH)
 (aP (pF DS false (xK cF yS (mV 1))))))
abbrev pK:Fn:=mFn 3 pJ
abbrev iL:Ms:=
 (aG (bG (aR (W7 (mV 1) (mC (.tup [.str "",.int (0)]))))
  (aP<|mC<|.str "map")
  bP)
 (aP (mIf (aR (aB cX (mV 1) (mUn (aU "made") (mV 0)))) (b7 (b7 (mUn (aU "made") (mV 0)) (mV 1)) (d3 0)) (mC .non))))
abbrev cY:Fn:=mFn 2 iL
abbrev fD:Str->jh Fn:=λ(z:Str)=>if z=("Tree" : Str) then a0 cY else(λ_=>a7) z
abbrev lI:Ms:=(aP<|aB bK (bM "kind_of" 1 fD (mV 0)<|aA (mV 1) aC)<|mIf (aR<|mCB G3<|aA (mV 2)<|aA (mC<|.ty "str") aC) (mC<|.str "map")<|mC<|.str "row")
abbrev gY:Fn:=mFn 3 lI
abbrev pL:Ms:=
 (aG (jZ (mV 0) (δb (gCn (gN 2) (gCn (gN 3) gNl))))
 (aG (jZ (mV 1) (δb (gCn (gN 4) (gCn (gN 5) gNl))))
 (aP (Xj (mV 2) (aT (aA (aT (aA (mV 3) (aA (mV 4) (aA (mV 5) (aA (d3 0) aC))))) aC))))))
abbrev iM:Fn:=mFn 6 pL
abbrev pM:Ms:=(aP<|mIf (aR<|mCB G3<|aA (mV 0)<|aA (mC<|.ty "str") aC) (mV 0)<|aW 2 iM<|aA (mV 0)<|aA (mV 1) aC)
abbrev lJ:Fn:=mFn 2 pM
abbrev Cq:Str->jh Fn:=λ(z:Str)=>if z=("Tree" : Str) then a0 gY else(λ_=>a7) z
abbrev fE:Ms:=
 (aG (jZ (mV 2) (gTp 4 (gCn (gN 3) (gCn (gN 4) (gCn (gN 5) (gCn (gN 6) gNl))))))
 (aG (bG (qE (aR (bM "takes" 2 Cq (mV 0) (aA (mV 5) (aA (mV 6) aC)))))
  lZ
  bP)
 (aG (kC (aT (aA (mV 4) (aA (mV 5) (aA (aW 2 lJ (aA (mV 6) (aA (mV 1) aC))) aC)))) (mUn (aU "made") (mV 0)) (mV 1))
 (aP (mC (.str "done"))))))
abbrev kF:Fn:=mFn 7 fE
abbrev qN:Str->jh Fn:=λ(z:Str)=>if z=("Tree" : Str) then a0 kF else(λ_=>a7) z
abbrev nF:Ms:=
 (aG (jZ (mV 1) (gTp 3 (gCn (gN 2) (gCn (gN 3) (gCn (gN 4) gNl)))))
 (aG (bG (aR (W7 (b7 (mV 4) (d3 0)) (mC (.str "make"))))
  (aP<|bM "hear_make" 2 qN (mV 0)<|aA (mV 2)<|aA (mV 4) aC)
  bP)
 (aG lZ
 (aG lZ
 lZ))))
abbrev nG:Fn:=mFn 5 nF
abbrev fF:Ms:=(cN "total" (mV 0)<|d3 0)
abbrev kG:Fn:=Yb fF
abbrev eQ:Ms:=(cN "standing" (mV 0)<|cO aC)
abbrev jA:Fn:=Yb eQ
abbrev iN:Ms:=(cN "standing" (mV 0)<|cO aC)
abbrev nH:Fn:=Yb iN
abbrev fG:Ms:=(cN "kept" (mV 0) kQ)
abbrev kH:Fn:=Yb fG
abbrev fH:Ms:=(cN "standing" (mV 0)<|cO aC)
abbrev kI:Fn:=Yb fH
abbrev gH:Ms:=
 (aG (cN "signs" (mV 0) (gL "Signs" 0 kH aC))
 (cN "marks" (mV 0) (gL "Marks" 0 kI aC)))
abbrev mB:Fn:=Yb gH
abbrev rQ:Ms:=
 (aG (bG (aR (W7 (mV 0) (mC (.str "count"))))
  (aP<|gL "Count" 0 kG aC)
  bP)
 (aG (bG (aR (W7 (mV 0) (mC (.str "choice"))))
  (aP<|gL "Choice" 0 jA aC)
  bP)
 (aG (bG (aR (W7 (mV 0) (mC (.str "bag"))))
  (aP<|gL "Bag" 0 nH aC)
  bP)
 (aG (bG (aR (W7 (mV 0) (mC (.str "text"))))
  (aP<|gL "Text" 0 mB aC)
  bP)
 (aP (mC .non))))))
abbrev bR:Fn:=Yb rQ
abbrev eF:Ms:=
 (aG (aY 3 (βM (aA (mV 2) aC)))
 (bG (aR (aB Aq (mV 3) (mC .non)))
  (kC (mV 3) (mUn (aU "leaves")<|mV 0)<|mV 1)
  bP))
abbrev iO:Fn:=mFn 4 eF
abbrev ET:Str->jh Fn:=λ(z:Str)=>if z=("Tree" : Str) then a0 nG else(λ_=>a7) z
abbrev sU:Str->jh Fn:=λ(z:Str)=>if z=("Folding" : Str) then a0 iO else(λ_=>a7) z
abbrev dJ:Ms:=
 (aG (aY 2 (bM "hear" 1 ET (mUn (aU "tree") (mV 0)) (aA (mV 1) aC)))
 (aG (aY 3 (b7 (mV 1) (d3 2)))
 (aG (bG (yL (aR (W7 (b7 (mV 3) (d3 0)) (mC (.str "make")))) (aR (W7 (mV 2) (mC (.str "done")))))
  (iU<|bM "add_leaf" 2 sU (mV 0)<|aA (b7 (mV 1)<|d3 0)<|aA (b7 (mV 3)<|d3 1) aC)
  bP)
 (aP (mV 2)))))
abbrev gM:Fn:=mFn 4 dJ
abbrev pN:Ms:=(aP<|mUn (vGd [("add","count"),("choose","choice"),("put","bag"),("take","bag"),("write","text"),("cut","text"),("mark","text"),("clear","text")])<|mV 0)
abbrev lK:Fn:=Yb pN
abbrev lL:Ms:=
 (aG (aY 2 (b7 (mV 1) (d3 2)))
 (bG (aR (W7 (b7 (mV 2) (d3 0)) (mC (.str "add"))))
  (EF "total" (mV 0)<|aB vAt (mV 2)<|d3 2)
  bP))
abbrev lM:Fn:=mFn 3 lL
abbrev pO:Ms:=
 (bG (aR (W7 (mV 2) (b7 (mV 1) (d3 0))))
   (aP<|aB vLe (b7 (mV 1)<|d3 1)<|mV 3)
   bP)
abbrev wI:Ms:=
 (aG (dH (aV (mV 0)) (δb (gCn (gN 2) (gCn (gN 3) gNl))) pO)
 (aP (mC (.bl false))))
abbrev fW:Fn:=mFn 4 wI
abbrev jK:Ms:=
 (aG (jZ (mV 1) (gTp 3 (gCn (gN 2) (gCn (gN 3) (gCn (gN 4) gNl)))))
 (bG (aR (W7 (b7 (mV 4) (d3 0)) (mC (.str "choose"))))
  (aG (aY 5 (bB [a7,a0 3] (aV (mUn (aU "standing") (mV 0))) (gN 0) (qE (aR (aW 2 fW (aA (mV 1) (aA (b7 (mV 0) (d3 0)) aC))))) (mV 0)))
  (cN "standing" (mV 0) (Xj (mV 5) (cO (aA (aT (aA (mV 2) (aA (b7 (mV 4) (d3 2)) aC))) aC)))))
  bP))
abbrev jL:Fn:=mFn 6 jK
abbrev pP:Ms:=
 (aG (jZ (mV 1) (gTp 3 (gCn (gN 2) (gCn (gN 3) (gCn (gN 4) gNl)))))
 (bG (aR (W7 (b7 (mV 4) (d3 0)) (mC (.str "put"))))
  (cN "standing" (mV 0)<|aB aL (mUn (aU "standing")<|mV 0)<|cO<|aA (aT<|aA (mV 2)<|aA (b7 (mV 4)<|d3 2) aC) aC)
  (bG (aR (W7 (b7 (mV 4) (d3 0)) (mC (.str "take"))))
   (cN "standing" (mV 0)<|bB [a7,a0 4,a0 3] (aV<|mUn (aU "standing")<|mV 0) (gN 0) (Ar (aR<|aB jJ (b7 (mV 0)<|d3 1)<|aB vAt (mV 1)<|d3 2)<|qE<|aR<|aW 2 fW<|aA (mV 2)<|aA (b7 (mV 0)<|d3 0) aC)<|mV 0)
   bP)))
abbrev pQ:Fn:=mFn 5 pP
abbrev jM:Ms:=(iU<|mMt isL (onL bA) (mV 11)<|aA (Xj (b7 (mV 11)<|aB Aj (mV 12)<|d3 1)<|aT<|aA (aT<|aA (d3 1)<|aA (mV 9)<|aA (mV 10)<|aA (mV 12) aC) aC) aC)
abbrev nI:Ms:=
 (aG (jZ (mV 0) (gTp 3 (gCn (gN 1) (gCn (gN 2) (gCn (gN 3) gNl)))))
 (aG (jZ (mV 3) (gTp 5 (gCn (gN 4) (gCn (gN 5) (gCn (gN 6) (gCn (gN 7) (gCn (gN 8) gNl)))))))
 (aG (jZ (mV 1) (δb (gCn (gN 9) (gCn (gN 10) gNl))))
 (aG (aY 11 (cO (aA (aW 2 iM (aA (aT (aA (mV 6) (aA (mV 7) aC))) (aA (mV 1) aC))) aC)))
 (aG (dH (qG (aA (d3 1) (aA (βt (aA (mV 8) aC)) aC))) (gN 12) jM)
 (aP (mV 11)))))))
abbrev jB:Fn:=mFn 13 nI
abbrev gI:Ms:=(kC (mV 4) (mUn (aU "kept")<|mV 0)<|mV 3)
abbrev jN:Ms:=
 (aG (aY 2 (b7 (b7 (mV 1) (d3 2)) (d3 4)))
 (dH (ID (aA (aW 1 jB (aA (mV 1) aC)) (aA (mV 2) aC))) (δb (gCn (gN 3) (gCn (gN 4) gNl))) gI))
abbrev jO:Fn:=mFn 5 jN
abbrev rR:Ms:=(aP<|aB aL (mV 0)<|aT<|aA (aT<|aA (d3 0) aC) aC)
abbrev oO:Fn:=Yb rR
abbrev pR:Ms:=(aP<|aW 1 oO<|aA (b7 (mV 0)<|d3 0) aC)
abbrev eG:Fn:=Yb pR
abbrev fO:Ms:=
 (bG (aR (aB cX (mV 3) (mUn (aU "kept") (mV 0))))
   (iU<|mMt isL (onL bA) (mV 2)<|aA (aT<|aA (mV 3)<|aA (mMt cF vY (mUn (aU "kept")<|mV 0)<|aA (mV 3) aC) aC) aC)
   bP)
abbrev nJ:Ms:=
 (aG (aY 2 (cO aC))
 (aG (dH (aV (mV 1)) (gN 3) fO)
 (aP (kZ eG false 2 (mV 2)))))
abbrev nK:Fn:=mFn 4 nJ
abbrev lN:Ms:=
 (aG (jZ (mV 1) (gTp 3 (gCn (gN 2) (gCn (gN 3) (gCn (gN 4) gNl)))))
 (bG (aR (aB dR (mV 2) (bB [a7] (aV (mUn (aU "standing") (mV 0))) (gN 0) dQ (b7 (mV 0) (d3 0)))))
  (iU<|mMt isL (onL bA) (mUn (aU "standing")<|mV 0)<|aA (aT<|aA (mV 2)<|aA (b7 (mV 4)<|d3 2)<|aA (b7 (mV 4)<|d3 3)<|aA (b7 (mV 4)<|d3 4)<|aA (aT aC) aC) aC)
  bP))
abbrev lO:Fn:=mFn 5 lN
abbrev AX:Ms:=
 (aG (jZ (mV 0) (gTp 5 (gCn (gN 2) (gCn (gN 3) (gCn (gN 4) (gCn (gN 5) (gCn (gN 6) gNl)))))))
 (aG (jZ (mV 1) (gTp 3 (gCn (gN 7) (gCn (gN 8) (gCn (gN 9) gNl)))))
 (aG (bG (Ar (aR (aB jJ (mV 5) (b7 (mV 9) (d3 4)))) (qE (aR (aW 2 fW (aA (mV 8) (aA (mV 2) aC))))))
  (aP<|mV 0)
  bP)
 (aP (aT (aA (mV 2) (aA (mV 3) (aA (mV 4) (aA (mV 5) (aA (Xj (mV 6) (aT (aA (aT (aA (b7 (mV 9) (d3 2)) (aA (b7 (mV 9) (d3 3)) aC))) aC))) aC))))))))))
abbrev qO:Fn:=mFn 10 AX
abbrev jP:Ms:=(cN "standing" (mV 0)<|bB [a7,a0 1] (aV<|mUn (aU "standing")<|mV 0) (gN 0) dQ<|aW 2 qO<|aA (mV 0)<|aA (mV 1) aC)
abbrev jQ:Fn:=mFn 2 jP
abbrev Cr:Str->jh Fn:=λ(z:Str)=>if z=("Signs" : Str) then a0 jO else(λ_=>a7) z
abbrev J6:Str->jh Fn:=λ(z:Str)=>if z=("Signs" : Str) then a0 nK else(λ_=>a7) z
abbrev EU:Str->jh Fn:=λ(z:Str)=>if z=("Marks" : Str) then a0 lO else(λ_=>a7) z
abbrev Cs:Str->jh Fn:=λ(z:Str)=>if z=("Marks" : Str) then a0 jQ else(λ_=>a7) z
abbrev nL:Ms:=
 (aG (aY 2 (b7 (b7 (mV 1) (d3 2)) (d3 0)))
 (bG (aR (W7 (mV 2) (mC (.str "write"))))
  (iU<|bM "write" 1 Cr (mUn (aU "signs")<|mV 0)<|aA (mV 1) aC)
  (bG (aR (W7 (mV 2) (mC (.str "cut"))))
   (iU<|bM "cut" 1 J6 (mUn (aU "signs")<|mV 0)<|aA (b7 (b7 (mV 1)<|d3 2)<|d3 2) aC)
   (bG (aR (W7 (mV 2) (mC (.str "mark"))))
    (iU<|bM "mark" 1 EU (mUn (aU "marks")<|mV 0)<|aA (mV 1) aC)
    (bG (aR (W7 (mV 2) (mC (.str "clear"))))
     (iU<|bM "clear" 1 Cs (mUn (aU "marks")<|mV 0)<|aA (mV 1) aC)
     bP)))))
abbrev nM:Fn:=mFn 3 nL
abbrev qP:Str->jh Fn:=λ(z:Str)=>if z=("Folding" : Str) then a0 gM else(λ_=>a7) z
abbrev eI:Str->jh Fn:=λ(z:Str)=>if z=("Count" : Str) then a0 lM else(λ(z:Str)=>if z=("Choice" : Str) then a0 jL else(λ(z:Str)=>if z=("Bag" : Str) then a0 pQ else(λ(z:Str)=>if z=("Text" : Str) then a0 nM else(λ_=>a7) z) z) z) z
abbrev eR:Ms:=
 (aG (aY 2 (b7 (mV 1) (d3 2)))
 (aG (bG (aR (aB cX (b7 (mV 2) (d3 0)) (aT (aA (mC (.str "make")) (aA (mC (.str "move")) (aA (mC (.str "drop")) aC))))))
  (aP<|bM "hear_tree" 1 qP (mV 0)<|aA (mV 1) aC)
  bP)
 (aG (bG (aR (aB dR (b7 (mV 2) (d3 0)) (aT (aA (mC (.str "back")) (aA (mC (.str "settle")) aC)))))
  (aG (bG (aR (aB jJ (bM "kind_of" 1 fD (mUn (aU "tree") (mV 0)) (aA (b7 (mV 2) (d3 1)) aC)) (aW 1 lK (aA (b7 (mV 2) (d3 0)) aC))))
   (aP<|mC<|.str "idle")
   bP)
  (iU (bM "hear" 1 eI (b7 (mUn (aU "leaves") (mV 0)) (b7 (mV 2) (d3 1))) (aA (mV 1) aC))))
  bP)
 (aP (mC (.str "done"))))))
abbrev cZ:Fn:=mFn 3 eR
abbrev gJ:Ms:=(aP<|mUn (aU "total")<|mV 0)
abbrev mD:Fn:=Yb gJ
abbrev fJ:Ms:=(aP<|mCB fC<|aA (mUn (aU "standing")<|mV 0) aC)
abbrev kJ:Fn:=Yb fJ
abbrev jR:Ms:=(aP<|mCB fC<|aA (mUn (aU "standing")<|mV 0) aC)
abbrev oZ:Fn:=Yb jR
abbrev lQ:Ms:=(aP<|bB [a7] (aV<|mUn (aU "standing")<|mV 0) (gN 0) dQ<|aB aL (mSl (mV 0) mG<|mP<|d3 4)<|aT<|aA (mCB fC<|aA (b7 (mV 0)<|d3 4) aC) aC)
abbrev lS:Fn:=Yb lQ
abbrev lT:Ms:=(aP<|kZ eG false 2<|xK cF fN<|mUn (aU "kept")<|mV 0)
abbrev lV:Fn:=Yb lT
abbrev tV:Str->jh Fn:=λ(z:Str)=>if z=("Marks" : Str) then a0 lS else(λ(z:Str)=>if z=("Signs" : Str) then a0 lV else(λ_=>a7) z) z
abbrev iP:Ms:=(aP<|aT<|aA (bM "rows" 0 tV (mUn (aU "signs")<|mV 0) aC)<|aA (bM "rows" 0 tV (mUn (aU "marks")<|mV 0) aC) aC)
abbrev nN:Fn:=Yb iP
abbrev bW:Str->jh Fn:=λ(z:Str)=>if z=("Count" : Str) then a0 mD else(λ(z:Str)=>if z=("Choice" : Str) then a0 kJ else(λ(z:Str)=>if z=("Bag" : Str) then a0 oZ else(λ(z:Str)=>if z=("Text" : Str) then a0 nN else(λ_=>a7) z) z) z) z
abbrev dB:Ms:=(aP<|mIf (aR<|aB cX (mV 1)<|mUn (aU "leaves")<|mV 0) (bM "content" 0 bW (b7 (mUn (aU "leaves")<|mV 0)<|mV 1) aC)<|mC .non)
abbrev dC:Fn:=mFn 2 dB
abbrev nO:Ms:=(aP<|aB vAt (mV 0)<|d3 0)
abbrev sV:Fn:=Yb nO
abbrev nP:Ms:=(aP<|pF sV false<|rK true (xK cF fN<|mUn (aU "made")<|mV 0)<|bB [a7,a7] (vR true<|xK cF fN<|mUn (aU "made")<|mV 0) (δb<|gCn (gN 0)<|gCn (gN 1) gNl) dQ<|aB aL (aT<|aA (mV 0) aC)<|mV 1)
abbrev nQ:Fn:=Yb nP
abbrev nR:Ms:=(aP<|mCB fC<|aA (mUn (aU "failed")<|mV 0) aC)
abbrev jC:Fn:=Yb nR
abbrev EV:Str->jh Fn:=λ(z:Str)=>if z=("Tree" : Str) then a0 jC else(λ_=>a7) z
abbrev wJ:Str->jh Fn:=λ(z:Str)=>if z=("Tree" : Str) then a0 nQ else(λ_=>a7) z
abbrev pA:Str->jh Fn:=λ(z:Str)=>if z=("Folding" : Str) then a0 dC else(λ_=>a7) z
abbrev iQ:Ms:=(aP<|aT<|aA (bB [a7,a0 0] (aV<|bM "rows" 0 wJ (mUn (aU "tree")<|mV 0) aC) (gN 0) dQ<|aB aL (mV 0)<|aT<|aA (bM "content_of" 1 pA (mV 1)<|aA (b7 (mV 0)<|d3 0) aC) aC)<|aA (bM "lost" 0 EV (mUn (aU "tree")<|mV 0) aC) aC)
abbrev iR:Fn:=Yb iQ
abbrev wK:Str->jh Fn:=λ(z:Str)=>if z=("Folding" : Str) then a0 cZ else(λ_=>a7) z
abbrev EW:Str->jh Fn:=λ(z:Str)=>if z=("Folding" : Str) then a0 iR else(λ_=>a7) z
abbrev wL:Ms:=(iU<|bM "hear" 1 wK (mV 2)<|aA (mV 3) aC)
abbrev DT:Ms:=
 (aG (aY 2 (gL "Folding" 1 eE (aA (mV 0) aC)))
 (aG (dH (aV (aW 1 pK (aA (mV 1) aC))) (gN 3) wL)
 (aP (bM "base" 0 EW (mV 2) aC))))
abbrev AY:Fn:=mFn 4 DT
abbrev AZ:Ms:=(aP<|aT<|aA (cO aC)<|aA (cO aC) aC)
abbrev qQ:Fn:=mFn 0 AZ
abbrev EX:Ms:=(aP<|aT<|aA (Xj (d3 1)<|mCB Ds<|aA (bB [a7,a7] (aV<|aB vAt (mV 0)<|d3 1) (δb<|gCn (gN 0)<|gCn (gN 1) gNl) dQ<|mV 1) aC)<|aA (b7 (b7 (mV 0)<|d3 0)<|d3 0)<|aA (b7 (b7 (mV 0)<|d3 0)<|d3 1) aC)
abbrev EY:Fn:=Yb EX
abbrev B0:Ms:=
 (aG (bG (aR (W7 (mV 0) (mC (.str "count"))))
  (aP<|cO<|aA (mC<|.str "add") aC)
  bP)
 (aG (bG (aR (W7 (mV 0) (mC (.str "choice"))))
  (aP<|cO<|aA (mC<|.str "choose") aC)
  bP)
 (aG (bG (aR (W7 (mV 0) (mC (.str "bag"))))
  (aP<|cO<|aA (mC<|.str "put")<|aA (mC<|.str "take") aC)
  bP)
 (aP (cO (aA (mC (.str "write")) (aA (mC (.str "cut")) (aA (mC (.str "mark")) (aA (mC (.str "clear")) aC)))))))))
abbrev m_words:Fn:=Yb B0
abbrev tW:Ms:=
 (bG (yL (aR (aB cX (b7 (b7 (mV 13) (d3 2)) (d3 0)) (aW 1 m_words (aA (mV 8) aC)))) (aR (W7 (b7 (b7 (mV 13) (d3 2)) (d3 1)) (mV 7))))
    (iU<|bM "hear" 1 eI (mV 12)<|aA (mV 13) aC)
    bP)
abbrev oP:Ms:=
 (aG (aY 12 (βM (aA (mV 8) aC)))
  (aG (dH (aV (pF EY false (mV 3))) (gN 13) tW)
  (bG (aR (aB AK (bM "content" 0 bW (mV 12) aC) (mV 11)))
   lZ
   bP)))
abbrev J7:Ms:=
 (aG (aY 1 (aW 2 oK (aA (mV 0) (aA (d3 0) aC))))
 (aG (aY 2 (aW 2 AS (aA (mV 1) (aA (Xj (d3 1) (Ya (aB An (mV 1) (d3 24)) (d3 3))) aC))))
 (aG (aY 3 (aW 2 AV (aA (mSl (mV 0) (mP (d3 1)) (mP (d3 41))) (aA (mV 2) aC))))
 (aG (aY 4 (mCB fC (aA (mV 3) aC)))
 (aG (bG (aR (W7 (Ya (aB An (mV 1) (d3 72)) (d3 2)) (d3 1)))
  (aY 4<|aB aL (mUn vO<|mV 3)<|mUn (wB 3 5)<|mV 3)
  bP)
 (aG (jZ (aW 2 AY (aA (wA qQ) (aA (mV 4) aC))) (δb (gCn (gN 5) (gCn (gN 6) gNl))))
 (aG (bG (Ar (aR (aB jJ (mV 6) (cO aC))) (aR (aB jJ (bB [a7] (aV (mV 5)) (gN 0) dQ (b7 (mV 0) (d3 0))) (bB [a7,a0 2] (aV (cO (aA (d3 1) (aA (d3 2) (aA (d3 3) (aA (d3 4) aC)))))) (gN 0) dQ (aT (aA (b7 (mV 1) (d3 0)) (aA (mV 0) aC)))))))
  lZ
  bP)
 (aG (dH (aV (mV 5)) (gTp 5 (gCn (gN 7) (gCn (gN 8) (gCn (gN 9) (gCn (gN 10) (gCn (gN 11) gNl)))))) oP)
 (aP (vA (aB vIs (βM (aA (mC (.str "map")) aC)) (mC .non)) (aB vIs (βM (aA (mC (.str "row")) aC)) (mC .non))))))))))))
abbrev J8:Fn:=mFn 14 J7
end
abbrev mMe(m:Str)(n:Nat)(tb:Str->jh Fn)(ms:Ma)(δ:Ev)(x:PV)(h:PH):W_ 0:=match fT x h with
 |some (_,c,fs)=>match tb c,fs.lookup m with
  |some f,a7=>(Xi h).bind λps h2=>if ps.length=n then f (x::ps) h2 else .bad
  |_,_=>.bad
 |none=>.bad
variable{h:PH}{mo:Me}{ms:Ma}{n:Nat}{tb:Str->jh Fn}{δ:Ev}
def mM{m:Str}:bM m n tb mo ms δ h=(mo δ h).bind (mMe m n tb ms δ):=rfl
def mMx(m){k:Nat}{c:Str}{fs:i_ (Str×PV)}(g:h[k]?=a0 (.ins c fs))(l:fs.lookup m=a7)(n)(t)(ms)(δ):mMe m n t ms δ (.ref k) h=match t c with
 |some f=>(Xi h).bind λp H=>if p.length=n then f (.ref k::p) H else .bad
 |none=>.bad:=by
 unfold mMe;rw[qM g];simp[l];cases t c <;> rfl
def wM{α:Type}{P:α->Prop}:∀x∈([]:ZH 0),P x:=λ_ h=>Xk TZ
@[reducible]noncomputable def Seen:=i_<|Str×Int
abbrev look:Seen->Str->WS 0
 |[],_=>a7
 |p::r,h=>if p.1=h then a0 p.2 else look r h
def Gv(p)(r:Seen)(h):look (p::r) h=if p.1=h then a0 p.2 else look r h:=(rfl)
abbrev dput(kvs:Seen)(h:Str)(n:Int):Seen:=if(look kvs h).isSome then kvs.map (λp=>if p.1=h then(p.1,n) else p) else kvs++[(h,n)]
abbrev emb(kvs:Seen):i_ (Key×PV):=kvs.map λp=>(.inr p.1,.int p.2)
abbrev sv(S:Seen):PV:=.tup<|S.map λp=>.tup [.str p.1,.int p.2]
@[reducible]noncomputable def Ct:Str:="abcdefghijklmnopqrstuvwxyz"
def Rz:Ct.cps.toList.length=26:=by decide +kernel
def zI:Ct.length=26:=by decide +kernel
def J9:∀i:Fin 26,Ct.cps.toList[i.val]?=a0 (97+i.val):=by decide +kernel
variable{c:Nat}{x:Str}
def J':(x++(⟨#[c]⟩:Str)).length=x.length+1:=by rw[Str.length_append];rfl
variable{i:Int}
def EZ(h:0<=i)(h1:i<26):atI Ct.cps.toList i=a0 (97+i.toNat):=by rw[Lc h<|by assumption];show J9 ⟨i.toNat,⋯⟩
def app_list(x y:Str):(x++y).cps.toList=x.cps.toList++y.cps.toList:=PySem.W.KT.app_list x y
abbrev pv(p:Str×Int):PV:=.tup [.str p.1,.int p.2]
variable{p:Str×Int}
def wN{q:Str×Int}(h:pv p=pv q):p=q:=by let⟨a,b⟩:=p;simp[pv]at h;simp[h]
variable{S:Seen}
def OX:pv p∈S.map pv↔p∈S:=by
 constructor
 ·intro h;let⟨q,H,e⟩:=wo.mp h;rw[<-wN e];show H
 ·intro h;show wo.mpr ⟨p,h,rfl⟩
def F0(S:Seen):sv S=.tup (S.map pv):=rfl
variable{j:Int}{z:Str}
def Cu(H:0<=j)(h1:j<=z.length):(γK<|a0 j).cps.toList=z.cps.toList.take j.toNat:=by let e:γK _=⟨((z.cps.toList.drop 0).take (j-0).toNat).toArray⟩:=StrLaws.sliceText_to ⟨H,(by assumption)⟩;rw[e];simp
def DU(H:0<=j)(h1:j<=z.length):(UF z (a0 j) a7).cps.toList=z.cps.toList.drop j.toNat:=by let E:UF z _ a7=_:=StrLaws.sliceText_from ⟨H,(by assumption)⟩;rw[E];rw[zq];rw[yx];omega
def len_list(z:Str):z.cps.toList.length=z.length:=by simp[Wq]
variable{o:MO}
def F3{hX:PH}(x:tx hX):tx (hX.set h.length o):=λn O e=>by let H:=(X2 0).1;rw[yt ⋯];show x n O e
@[reducible]noncomputable def Nm:=Str×Int
@[reducible]noncomputable def root:Nm:=("",0)
structure St where
 s:Int
 h:Str
 n:Int
 k:Int
 deriving DecidableEq
local macro_rules|`(cx 0)=>`(List (List St×Nat))
abbrev stp(x:St):PV:=.tup [.int x.s,.str x.h,.int x.n,.int x.k]
def B1{x y:St}(h:stp x=stp y):x=y:=by let⟨a,b,c,d⟩:=x;simp[stp]at h;simp[h]
abbrev pl(xs:Ze 0):PV:=.tup<|xs.map stp
def B2{xs ys:Ze 0}(h:pl xs=pl ys):xs=ys:=by
 let h:xs.map stp=ys.map stp:=by simpa[pl] using h
 induction xs generalizing ys with
 |nil=>cases ys <;> simp at h⊢
 |cons x xs i=>
  cases ys with
  |nil=>simp at h
  |cons y ys=>simp at h;rw[B1 h.1,i (by simp[pl,h.2]) h.2]
@[reducible]noncomputable def Cv:PV:=.tup [.int 0]
abbrev B3(x y:St):Bool:=if x.s=y.s then(if x.h=y.h then(if x.n=y.n then decide (x.k<y.k) else decide (x.n<y.n)) else decide (x.h.cps.toList<y.h.cps.toList)) else decide (x.s<y.s)
abbrev bef:Ze 0->Ze 0->Bool
 |[],[]=>false
 |[],y::_=>decide (0<=y.s)
 |x::_,[]=>decide (x.s<0)
 |x::xs,y::ys=>if x=y then bef xs ys else B3 x y
def Ja(n)(x y)(e:x≠y):ltP (n+1) (stp x) (stp y)=a0 (B3 x y):=by
 let⟨a,b,c,d⟩:=x;let⟨A,B,C,D⟩:=y;by_cases h:a=A
 ·by_cases H:b=B
  ·by_cases z:c=C
   ·by_cases w:d=D
    ·show absurd (by simp[h,H,z,w]) e
    ·simp[ltP,ltL,stp,B3,h,H,z,w]
   ·simp[ltP,ltL,stp,B3,h,H,z]
  ·simp[ltP,ltL,stp,B3,h,H]
 ·simp[ltP,ltL,stp,B3,h]
def DV(n):∀X Y,ltL (ltP<|n+2) (X.map stp++[Cv]) (Y.map stp++[Cv])=a0 (bef X Y)
 |[],[]=>by simp[ltL,bef]
 |[],y::Y=>by
  let e:Cv≠stp y:=by simp[stp]
  simp[List.map_nil,WH,xg,List.cons_append,ltL,W5 0,bef];simp only[ltP,stp,ltL];by_cases h:(0)=y.s
  ·simp[<-h]
  ·have:decide ((0)<y.s)=decide (0<=y.s):=by rw[Up];simp;omega
   simp[h,this]
 |x::X,[]=>by
  let e:stp x≠Cv:=by simp[stp]
  simp[List.map_nil,WH,xg,List.cons_append,ltL,W5 0,bef];simp only[ltP,stp,ltL];by_cases h:x.s=0
  ·simp[h]
  ·simp[h]
 |x::X,y::Y=>by
  simp[xg,List.cons_append,ltL,bef];by_cases h:x=y
  ·subst h;simp[if_true];show DV n X Y
  ·rw[if_neg λz=>h<|B1 z,γR 0];show Ja _ x y h
def LY(xs)(h)(x:xs.length<=1000):oO [pl xs] h=.ok (.tup<|xs.map stp++[Cv]) h:=by
 let w:(oO [pl xs] h).W λp H=>p=.tup (xs.map stp++[Cv])/\H=h:=by refine W_fn ?_;simp(disch:=(simp;omega)) [rR,pl]
 let⟨p,H,e,rfl,rfl⟩:=gQ w;show e
def Jb{a b:Str}(h:a.cps.toList=b.cps.toList):a=b:=by
 let⟨x⟩:=a;congr 1;show Array.toList_inj.mp h
variable{b:v_ 0}
def Gw{a:v_ 0}(h:a<b):¬ b<a:=List.lt_asymm h
def LZ{a:v_ 0}(h:¬ a<b)(h':¬ b<a):a=b:=List.le_antisymm h' h
def Jc{x y:St}(h:x≠y):B3 y x=!B3 x y:=by
 let⟨a,b,c,d⟩:=x;let⟨A,B,C,D⟩:=y;unfold B3;by_cases w:a=A
 ·subst w;by_cases H:b=B
  ·subst H;by_cases t:c=C
   ·subst t;let r:d≠D:=λz=>h (by rw[z]);simp;rw[Up];simp;omega
   ·let s:¬ C=c:=λz=>t z.symm;simp[t,s];rw[Up];simp;omega
  ·let u:¬ B=b:=λz=>H z.symm;let n:=λz=>H<|Jb z;simp[H,u];rw[Up];simp only[decide_eq_true_eq,VV,decide_eq_false_iff_not];constructor
   ·intro z;show Gw z
   ·intro z;rcases Classical.em _ with q|q
    ·show q
    ·show absurd (LZ z q) n
 ·let v:¬ A=a:=λz=>w z.symm;simp[w,v];rw[Up];simp;omega
def F4:∀{xs ys:Ze 0},xs≠ys->bef ys xs=!bef xs ys
 |[],[],h=>absurd rfl h
 |[],y::ys,_=>by simp[bef];rw[Up];simp
 |x::xs,[],_=>by simp[bef];rw[Up];simp
 |x::xs,y::ys,h=>by
  simp[bef];by_cases e:x=y
  ·subst e;simp[if_true];show F4 λz=>h (by rw[z])
  ·rw[W5 0,if_neg λz=>e z.symm];show Jc e
abbrev rk(xs:Ze 0):PV:=.tup<|xs.map stp++[Cv]
def Jd(p:Ze 0):(PV.tup<|p.map stp).ky 6=true:=by
 change(p.map stp).all _=true
 rw[List.all_map];show xi.mpr λy _=>rfl
def To(P:i_ (Ze 0)):OkN 2 (P.map rk):=by
 refine⟨⋯,λv h=>?_,λv h=>?_,λv h u H=>?_⟩
 ·let⟨x,_,rfl⟩:=wo.mp h
  change(x.map stp++[Cv]).all _=true
  rw[List.all_append,yq,List.all_map];show⟨xi.mpr λy _=>rfl,rfl⟩
 ·let⟨x,_,rfl⟩:=wo.mp h;cases x <;> rfl
 ·let⟨x,_,rfl⟩:=wo.mp h;let⟨s,_,rfl⟩:=wo.mp H
  change(ltL _ _ _).isSome=true
  rw[DV 17 x s];rfl
def OY{xs ys:Ze 0}(h:rk xs=rk ys):pl xs=pl ys:=by unfold pl;have:=PV.tup.inj h;rw[(List.append_inj' this rfl).1]
def OZ(xs ys):ltN (rk xs) (rk ys)=bef xs ys:=AA (n:=20) (by change ltL _ _ _=_;show DV 17 xs ys)
abbrev cell(ns:Zg 0)(i:Nat):Int:=ns.getD i 0
open H in
def M0(ns)(i:Nat)(h):oK [.fl<|ns.map PV.int,.int i] h=.ok (.int<|cell ns i) h:=by
 let w:(oK [.fl<|ns.map PV.int,.int i] h).W λp H=>p=.int (cell ns i)/\H=h:=by
  refine W_fn ?_;simp[rO,aD];split
  ·let e:atI (ns.map PV.int) (i)=a0 (.int (cell ns i)):=bZ (by simp[cell,⋯]);simp[e]
  ·refine now ?_;have:ns.length<=i:=⋯;simp[cell,this]
 let⟨p,H,e,rfl,rfl⟩:=gQ w;show e
inductive Ak where
 |make (k:Str)
 |num (w:Str) (v:Int)
 |wrt (u:i_ St) (s:Int) (z:Str)
 |ct (g:i_ (i_ St))
 |mrk (w:Str) (f l:i_ St) (z:Str)
abbrev akP(t:Nm):Ak->x_ 0
 |.make k=>[.str "make",.str k,pv root,.str "k"]
 |.num w v=>[.str w,pv t,.int v]
 |.wrt u s z=>[.str "write",pv t,pl u,.int s,.str z]
 |.ct g=>[.str "cut",pv t,.tup<|g.map pl]
 |.mrk w f l z=>[.str w,pv t,pl f,pl l,.str z]
structure Dd where
 nm:Nm
 seen:Seen
 th:Nm
 ak:Ak
abbrev Dd.act(d:Dd):x_ 0:=akP d.th d.ak
abbrev dP(d:Dd):PV:=.tup [Ye 0,YW 0,.tup d.act]
abbrev tot(S:Seen):Int:=(S.map (·.2)).sum
abbrev kyL(d:Dd):XQ 0:=[.inl<|1+tot d.seen,.inr d.nm.1,.inl d.nm.2]
def dP0{d:Dd}:vIx (dP d) (.int 0) h=.ok (Ye 0) h:=by unfold dP;simp
def dP1{d:Dd}:vIx (dP d) (.int 1) h=.ok (YW 0) h:=by unfold dP;simp
def dP2{d:Dd}:vIx (dP d) (.int 2) h=.ok (.tup d.act) h:=by unfold dP;simp
def pv0:vIx (pv p) (.int 0) h=.ok (.str p.1) h:=by unfold pv;simp
def pv1:vIx (pv p) (.int 1) h=.ok (.int p.2) h:=by unfold pv;simp
def RA:(PV.tup [.str p.1,.int p.2]).ky 6=true:=rfl
def Je(d)(S:d.seen.length<=100)(h)(Q)(k:∀H,tx H->Q (.int<|1+tot d.seen) H):(AW [dP d] h).W Q:=by
 refine W_fn ?_;let c:=yP (js:=[a7]) (tg:=gN 0) (tst:=dQ) (elt:=b7 (mV 0)<|d3 1) (m:=b7 (mV 0)<|d3 1) (δ:=[a0<|dP d]) (h:=h) (h1:=h) (ys:=d.seen) (emb:=pv)
  (λq=>a0 (.int q.2)) (by simp[dP1,F0]) ⋯ (λq y=>⟨_,rfl,λz _=>⟨rfl,by simp[dI,pv1]⟩⟩)
 let e:d.seen.filterMap (λq=>a0<|PV.int q.2)=(d.seen.map (·.2)).map PV.int:=by rw[filterMap_some,yg];rfl
 rw[e]at c;change (tU [a0 _] h).W _;unfold tU;rw[sJ,Er,HM,Rs.bind_ok,HN,vB,c];simp only[Rs.bind_ok,Et,BU aE,G6,BS];show k _<|Ext.app _ _
def M1(d)(S:d.seen.length<=100)(h)(Q)(k:∀H,tx H->Q (tP<|kyL d) H):(DS [dP d] h).W Q:=by refine W_fn ?_;unfold DR;rw[aD];simp[dP0];refine⟨[a0<|dP d,a0<|.str d.nm.1,a0 (.int d.nm.2)],by simp[pv],?_⟩;refine now ?_;simp;refine Je d S _ _ λH x=>?_;show k H x
abbrev ent(d:Dd):PV×PV:=(Ye 0,dP d)
def Cw(p):∀s:i_ Dd,(aK (s.map ent)<|pv p).isSome=true↔p∈s.map (·.nm)
 |[]=>by simp[aK]
 |d::s=>by
  rw[xg,xg,wu]
  change(aK ((Ye 0,dP d)::s.map ent) _).isSome=true↔_
  unfold aK;by_cases e:d.nm=p
  ·rw[if_pos<|by rw[e]];simp[e]
  ·rw[if_neg<|λz=>e<|wN z,Cw p s];constructor
   ·show .inr
   ·rintro(z|z)
    ·show(e z.symm).elim
    ·show z
variable{es:i_ Dd}
def M3{d:Dd}(u:∀x∈es,x.nm=d.nm->x=d):cL (es.map ent) (Ye 0) (dP d)=(if d.nm∈es.map (·.nm) then es else es++[d]).map ent:=by
 unfold cL;let h:=Cw d.nm es;by_cases e:d.nm∈es.map (·.nm)
 ·rw[Yn 0,if_pos<|h.mpr e,yg];apply y1;intro x H
  change(if(ent x).1=Ye 0 then _ else ent x)=ent x
  by_cases z:(ent x).1=Ye 0
  ·rw[YS 0];have:=u x H<|wN z;subst this;rfl
  ·rw[Y7 0]
 ·rw[W5 0,if_neg<|λz=>e<|h.mp z,zv];rfl
def F5(xs:i_ Dd):Ay (xs.map kyL)=true:=by
 cases xs with
 |nil=>rfl
 |cons a r=>rw[xg];unfold Ay;rw[yq];refine⟨rfl,xi.mpr λz h=>?_⟩;let⟨q,_,rfl⟩:=wo.mp h;rfl
def Cy{β:Type}(f:Dd->β)(H:∀a b,f a=f b->a.nm=b.nm):∀{xs:i_ Dd},(xs.map (·.nm)).Nodup->(xs.map f).Nodup:=λ{xs} h=>by unfold List.Nodup at*;rw[Ud] at*;show h.imp λn e=>n<|H _ _ e
def DW(a b)(e:kyL a=kyL b):a.nm=b.nm:=by unfold kyL at e;simp at e;show Prod.ext e.2.1 e.2.2
@[reducible]noncomputable def iS(os:i_ Dd):Prop:=os.Pairwise<|λa b=>cJ (kyL b) (kyL a)=false
open H in
def B4(U ds:i_ Dd)(J:∀d∈ds,d∈U)(C:U.length<=63)(hw:∀d∈ds,d.seen.length<=100)(hl:ds.length<=1000)(Z:∀d∈ds,∀e∈ds,d.nm=e.nm->d=e)(n:Nat)(h:PH)(g:h[n]?=a0 (.lst<|ds.map dP))(Q)
  (k:∀O l H,tx H->h.length<=l->H[l]?=a0 (.lst<|O.map dP)->(O.map (·.nm)).Nodup->(∀d,d∈O↔d∈ds)->iS O->Q (.ref l) H):(pK [.ref n] h).W Q:=by
 refine W_fn ?_;unfold pJ;rw[aD];simp;let V:tx (h++[MO.dK []]):=n7 _;let G:aX _ h.length=a0 (([]:i_ Dd).map ent):=tS aE;refine now ?_;rw[aD];refine rF (λq u H=>∃s,tx H/\aX H h.length=a0 (s.map ent)/\(s.map (·.nm)).Nodup/\(∀d,d∈s↔d∈ds.take q)/\s.length<=q/\∃f,u=[a0 (.ref n),a0 _,f]) (by simp) (V _ _ g) ⟨[],V,G,by simp,by simp,by simp,_,rfl⟩ ?_ ?_ ?_
 ·rintro q u H hq ⟨s,x,_⟩;show XW g
 ·rintro q y u H Y ⟨s,x,t,N,m,le,f,rfl⟩;rw[xf]at Y;let⟨d,D,rfl⟩:=xv.mp Y;let hq':=(vz.mp D).1;let T:ds.take (q+1)=ds.take q++[d]:=by rw[Ve,D];rfl
  let i:=ye D;let w:=λe j=>yc<|(m e).mp j;refine⟨_,rfl,?_⟩;let P:xN _ (Ye 0) (dP d) H=a0 (H.set h.length<|.dD<|cL _ (Ye 0)<|dP d):=Ic t RA (by rw[wd];omega);rw[M3 λe j z=>Z e (w e j) d i z]at P;let F:∃o,H[h.length]?=a0 o:=let ⟨o,g,_⟩:=bV t;⟨o,g⟩;let⟨o,v⟩:=F;unfold lH;simp[dP0];refine⟨_,P,F3 x,_,tT<|bF v,?_,?_,?_⟩
  ·split
   ·show N
   ·rename_i z;rw[zv,Vg];refine⟨N,by simp,λa A b B e=>?_⟩;rw[List.map_singleton,wx]at B;subst B e;show z<|cA A
  ·intro e;rw[T];split
   ·rename_i z;rw[m e,wg,wx];constructor
    ·show .inl
    ·rintro(z'|rfl)
     ·show z'
     ·let⟨r,E,L⟩:=wo.mp (show e.nm∈s.map (·.nm) by simpa using z)
      have:=Z r (w r E) e i L;subst this;show(m r).mp E
   ·rw[wg,wg,m e]
  ·split
   ·omega
   ·simp;omega
 ·rintro u H ⟨s,x,t,N,m,le,f,rfl⟩;let hle:s.length<=63:=by
   let K:=V5 N λp P=>by let⟨d,D,rfl⟩:=wo.mp P;show wo.mpr ⟨d,J d<|yc<|(m d).mp D,rfl⟩
   simp at K;omega
  let⟨o,v,c,_⟩:=bV t;refine now ?_;simp[c,Lq t];let X:Ext H (H++[MO.vw 1 h.length]):=n7 _;let I:iH (.ref H.length) (H++[MO.vw 1 h.length])=a0 (s.map dP):=by rw[C9 aE<|vN X t,yg];rfl
  let M:∀d,d∈s↔d∈ds:=λd=>by rw[m d,wd,VG]
  refine AQ (S:=shape [.inl 0,.inr "",.inl 0]) I ⋯ (F5 s) (λ_ _=>rfl) (Cy kyL DW N) (λd D h Q kk=>M1 d (hw d<|(M d).mp D) h Q kk) λO h3 R P v=>?_;refine k O _ _ ((x.trans X).trans<|R.trans<|Ext.app _ _) (yd x.len<|yd X.len R.len) aE ((P.map _).nodup_iff.mpr N) (λd=>(P.mem_iff).trans<|M d) v
def Cz{xs ys:i_ Dd}(hx:iS xs)(hy:iS ys)(nx:(xs.map (·.nm)).Nodup)(ny:(ys.map (·.nm)).Nodup)(hu:∀d∈xs,∀e∈xs,d.nm=e.nm->d=e)(h:∀d,d∈xs↔d∈ys):xs=ys:=by refine Vo (le:=λa b:Dd=>cJ _ _=false) (λa b ha hb h1 h2=>?_) hx hy ((List.perm_ext_iff_of_nodup ((Ud.mp nx).imp λh e=>h<|by rw[e])<|(Ud.mp ny).imp λh e=>h<|by rw[e]).mpr h);show hu a ha b ((h b).mpr hb)<|DW _ _<|qC rfl h2 h1
def B5{ds:i_ Dd}(n:(ds.map (·.nm)).Nodup):∀d∈ds,∀e∈ds,d.nm=e.nm->d=e:=by
 induction ds with
 |nil=>intro d H;cases H
 |cons x r i=>
  rw[xg,z7]at n;intro d H e E z;rcases wu.mp H with rfl|y
  ·rcases wu.mp E with rfl|h
   ·rfl
   ·show(n.1<|wo.mpr ⟨e,h,z.symm⟩).elim
  ·rcases wu.mp E with rfl|h
   ·show(n.1<|wo.mpr ⟨d,y,z⟩).elim
   ·show i n.2 d y e h z
abbrev cvB(S:Seen)(nm:Nm):Bool:=match look S nm.1 with
 |some n=>decide (nm.2<=n)
 |none=>false
def oQ(S)(nm)(h):fW [sv S,pv nm] h=.ok (.bl<|cvB S nm) h:=by
 let w:(fW [sv S,pv nm] h).W λq H=>q=.bl (cvB S nm)/\H=h:=by
  refine W_fn ?_;unfold wI;rw[aD];refine HS (xs:=S.map pv) (λq y H=>H=h/\look (S.drop q) nm.1=look S nm.1/\∃X z,y=[a0 _,a0 _,X,z]) (.inl<|by simp[F0]) ⟨rfl,rfl,_,_,rfl⟩ ?_ ?_
  ·rintro q x y H v ⟨rfl,k,X,z,rfl⟩;rw[xf]at v;let⟨p,P,rfl⟩:=xv.mp v;let d:S.drop q=p::S.drop (q+1):=by let⟨l,e⟩:=vz.mp P;rw[zg l,e]
   rw[d,Gv]at k;refine⟨_,by simp[pv];rfl,?_⟩;unfold pO;by_cases e:p.1=nm.1
   ·rw[Yn 0]at k;simp[pv,e];unfold cvB;rw[<-k]
   ·rw[W5 0]at k;simp[pv,e];show k
  ·rintro y H ⟨rfl,k,X,z,rfl⟩;refine now ?_;unfold cvB;simp[<-k,look]
 let⟨q,H,e,rfl,rfl⟩:=gQ w;show e
def P0(u v:v_ 0)(x:Nat):(u++[x]++v)[u.length]?=a0 x:=by simp
def Tp{α:Type}{xs:ZH 0}:fY xs (a0 1) a7=xs.tail:=by
 unfold fY HT.sIx;cases xs with
 |nil=>rfl
 |cons a r=>simp
abbrev XI(c many:Int)(h:PH)(q:Nat)(δ:Ev)(h':PH):Prop:=∃(xs:Zg 0)(n:Int),tx h'/\h'[h.length]?=a0 (.lst<|xs.map PV.int)/\xs.length=q/\(∀x∈xs,0<=x/\x<2147483647)/\0<=n/\n<2147531918/\∃x4,δ=[a0 (.int c),a0 (.int many),a0 (.ref h.length),a0 (.int n),x4]
def zJ(c)(m)(M:m<=100)(h)(Q)(k:∀(s:Zg 0) l y,tx y->h.length<=l->y[l]?=a0 (.lst<|s.map PV.int)->s.length=m->(∀x∈s,0<=x/\x<2147483647)->Q (.ref l) y):(nB [.int c,.int m] h).W Q:=by
 refine W_fn ?_;unfold wF;rw[aD];simp;refine now ?_;rw[aD];simp;let N:0<=c%2147483647+48271/\c%2147483647+48271<2147531918:=⋯;generalize c%2147483647+48271=n0 at N;refine now ?_;rw[aD];refine HQ (j:=(m)+1) (XI c m h) ?_ ⋯ ⟨[],n0,(n7 _),aE,rfl,(λx X=>by cases X),N.1,N.2,_,rfl⟩ ?_ ?_
 ·simp
 ·rintro i t y I ⟨s,n,x,g,L,b,w,v,u,rfl⟩;unfold pG;rw[aD];simp(disch:=omega);let B:0<=(n*n+48271*n+(i))%2147483647/\(n*n+48271*n+(i))%2147483647<2147483647:=⟨WL _ ⋯,Int.emod_lt_of_pos _ ⋯⟩;generalize (n*n+48271*n+(i))%2147483647=n' at B;refine now ?_;let a:=dZ (p:=.int n') g (by rw[wd];omega);rw[show s.map _++[.int n']=(s++[n']).map PV.int by simp]at a;simp[iX g];rw[a,BS];refine⟨s++[n'],n',F3 x,bF g,by simp[L],λz H=>?_,B.1,⋯,_,rfl⟩;rcases wg.mp H with H|H
  ·show b z H
  ·rw[wx.mp H];show B
 ·rintro t y ⟨s,n,x,g,L,b,w,v,u,rfl⟩;refine now ?_;simp[Ew g,Tp];rw[<-List.map_tail];show A5 _ (x.trans<|Ext.app _ _) x.len aE (by rw[List.length_tail,L];omega) λz H=>b z<|List.mem_of_mem_tail H
def Jf(s):(Builtin.Str.glued "" s).length=(s.map Wq).sum:=by
 let e:(xm "").cps=#[]:=rfl;let k:∀(s:yp 0)(a),((s.foldl (λa p=>a++(xm "").cps++p.cps) a).size)=a.size+(s.map Wq).sum:=by
  intro s
  induction s with
  |nil=>intro a;simp
  |cons z s i=>intro a;rw[VB,i,e];simp[Wq];omega
 change((s.drop 1).foldl (λa p=>a++(xm "").cps++p.cps) (s.headD _).cps).size=_
 rw[k];cases s with
 |nil=>rfl
 |cons z s=>simp[Wq]
def Jg(s):LA "" s=(s.map Wq).sum:=by
 unfold LA;let k:∀(s:yp 0)(n),s.foldl (λa p=>a+p.length+("" : Str).length) n=n+(s.map Wq).sum:=by
  intro s
  induction s with
  |nil=>intro n;simp
  |cons z s i=>intro n;rw[VB,i,xg,List.sum_cons];have:("" : Str).length=0:=rfl;omega
 rw[List.foldl_toArray];rw[k];omega
def F6:∀s,vP (s.map PV.str)=a0 s
 |[]=>rfl
 |z::s=>by rw[xg];unfold vP;rw[F6 s];rfl
variable{zs:yp 0}
def M4(g:h[n]?=a0 (.lst<|zs.map PV.str))(h1:∀z∈zs,z.length=1)(v:2<=zs.length)(x:zs.length<=1000):∃w,vQ (.str "") [.ref n] h=.ok (.str w) h/\w.length=zs.length:=by
 let s:(zs.map Wq).sum=zs.length:=by
  clear g v x
  induction zs with
  |nil=>rfl
  |cons z zs i=>rw[xg,List.sum_cons,h1 z wa,i λy Y=>h1 y (YI Y),yw];omega
 let e:jnd "" zs=Builtin.Str.glued "" zs:=by
  match zs,v with
  |_::_::_,_=>rfl
 let H:(jnd "" zs).length=zs.length:=by rw[e,Jf,s]
 refine⟨jnd "" zs,?_,H⟩;let l:dG h n=a0 (zs.map PV.str):=by simp[dG,g]
 let Z:(zs.length<=w9):=by rw[kT];omega
 unfold vQ;simp only[l,F6];rw[if_pos ⟨by rw[Jg,s];show Z,by rw[H];show Z⟩]
def Tq{α:Type}{xs:ZH 0}:fY xs a7 (a0 8)=xs.take 8:=by unfold fY HT.sIx;simp
def oR(h:0<=j)(h1:j<=z.length):(γK<|a0 j).length=j.toNat:=by rw[<-len_list,Cu h h1,ya];show Nat.min_eq_left<|Int.toNat_le.mpr h1
variable{xs:Zg 0}
def nS{i:Nat}(h):atI (xs.map PV.int) (i)=a0 (.int xs[i]):=bZ (by simp[h])
def MX{a b:Nat}{x:Int}(h1:a<b)(h:b-a<n):(x+(a))%(n)≠(x+(b))%(n):=λe=>by let z:=Int.emod_eq_emod_iff_emod_sub_eq_zero.mp e.symm;rw[Int.add_sub_add_left,<-Int.ofNat_sub (zi h1)]at z;let Z:(b-a)%n=0:=Int.ofNat_inj.mp z;rw[Nat.mod_eq_of_lt h]at Z;show absurd Z<|zr<|Nat.sub_pos_of_lt h1
def Jh(h:0<n)(x:Int):0<=x%(n)/\x%(n)<n:=⟨WL _<|Int.ofNat_ne_zero.mpr<|zr h,Int.emod_lt_of_pos _<|Int.natCast_pos.mpr h⟩
def Ji(c:Int)(m:Nat)(H:m<=6)(h:PH)(Q:PV->PH->Prop)(k:∀(C:yp 0)(l:Nat)(U:PH),U[l]?=a0 (.lst<|C.map PV.str)->C.length=m->C.Nodup->Q (.ref l) U):(AS [.int c,.int m] h).W Q:=by
 refine W_fn ?_;unfold AR;rw[aD];simp;refine now ?_;rw[aD];simp;refine zJ c 10 ⋯ h _ λq f A xA _ V s X=>?_
 try simp
 refine now ?_;rw[aD]
 -- the stem
 let p:=Ew (lo:=a7) (hi:=a0 8) V;rw[Tq,<-List.map_take]at p;let G:(A++[MO.lst<|(γY 0).map PV.int])[A.length]?=a0 (.lst<|(γY 0).map PV.int):=aE;let U:Ext A (A++[MO.lst<|(γY 0).map PV.int]):=n7 _;generalize A.length=lb at p G;generalize A++[MO.lst<|(γY 0).map PV.int]=hB at p G U;let Y:=eO (js:=[a7,a0 2]) (tg:=gN 0) (tst:=dQ) (elt:=b7 (mV 1)<|aB cK (mV 0)<|d3 26) (m:=mSl (mV 3) mG<|mP<|d3 8) (δ:=[a0 (.int c),a0 (.int m),a0<|.str Ct,a0 (.ref f),a7,a7]) (h:=A) (h1:=hB) (n:=lb) (ys:=γY 0) (emb:=PV.int)
  (λx=>a0 (.str ⟨#[97+(x%26).toNat]⟩)) (by simp[p]) G (by rw[ya];omega) (λx G=>⟨_,rfl,λH _=>⟨rfl,by
   let hl:=EZ (i:=x%26) ⋯ ⋯;let hv:vIx (.str Ct) (.int<|x%26) H=.ok (.str ⟨#[97+(x%26).toNat]⟩) H:=by rw[Lb (by rw[zI];omega),hl];rfl
   simp(disch:=omega) [dI,hv]⟩⟩)
 let T:(γY 0).filterMap (λx=>a0<|PV.str ⟨#[97+(x%26).toNat]⟩)=((γY 0).map λx=>(⟨#[97+(x%26).toNat]⟩:Str)).map PV.str:=by rw[filterMap_some,yg];rfl
 rw[T]at Y;let o:∀z∈(γY 0).map (λx=>(⟨#[97+(x%26).toNat]⟩:Str)),z.length=1:=λz hz=>by let⟨x,_,rfl⟩:=wo.mp hz;rfl
 let d:((γY 0).map λx=>(⟨#[97+(x%26).toNat]⟩:Str)).length=8:=by rw[wd,ya];omega
 generalize (γY 0).map (λx=>(⟨#[97+(x%26).toNat]⟩:Str))=zs at Y o d;let C:(hB++[MO.lst<|zs.map PV.str])[hB.length]?=a0 (.lst<|zs.map PV.str):=aE;let B:Ext hB (hB++[MO.lst<|zs.map PV.str]):=n7 _;generalize hB.length=lc at Y C;generalize hB++[MO.lst<|zs.map PV.str]=hC at Y C B;let⟨w,S,lw⟩:=M4 C o ⋯ ⋯;let u:LC (.str ("" : Str)) A=true:=rfl;simp[u,Y,S];let g:hC[f]?=a0 (.lst<|q.map PV.int):=B _ _<|U _ _ V;let v:atI (q.map PV.int) 8=a0 (.int q[8]):=nS (i:=8) ⋯;let u:atI (q.map PV.int) 9=a0 (.int q[9]):=nS (i:=9) ⋯;let p:=X q[8]<|xt _;let o:=X q[9]<|xt _;generalize q[8]=x8 at v p;generalize q[9]=x9 at u o;refine now ?_;rw[aD];simp(disch:=omega);split
 ·let l:=BW (js:=[a7,a0 4,a0 3]) (tg:=gN 0) (tst:=dQ) (elt:=mSl (mV 1) mG<|mP<|aB aL (d3 1)<|aB cK (Xj (mV 0)<|aB vAt (mV 2)<|d3 8)<|d3 8) (ms:=aA (mV 1) aC)
   (δ:=[a0 (.int c),a0 (.int m),a0<|.str Ct,a0 (.ref f),a0<|.str w,a7]) (h:=hC) (h1:=hC) (j:=m) (λi=>a0<|.str<|UF w a7<|a0<|1+((i:Int)+x8)%8) (by simp) ⋯
   (λi hi=>⟨_,rfl,λH G=>⟨rfl,by simp(disch:=omega) [dI,bE<|G _ _ g,v]⟩⟩)
  simp[l];have:=k ((zo m).map λ(i:Nat)=>UF w a7 (a0 (1+((i:Int)+x8)%8))) hC.length (hC++[.lst (((zo m).map λ(i:Nat)=>UF w a7 (a0 (1+((i:Int)+x8)%8))).map PV.str)]) aE (by simp) (by
   unfold List.Nodup;rw[Ud];refine(List.pairwise_lt_range (n:=m)).imp_of_mem λ{a b} s y B e=>?_;let Z:=Vu.mp y;let q:=Vu.mp s;let E:=congrArg Wq e;let r:∀i:Nat,(0:Int)<=1+((i:Int)+x8)%8/\1+((i:Int)+x8)%8<=w.length:=λi=>by let⟨V,X⟩:=Jh (n:=8) (by decide)<|(i:Int)+x8;rw[lw,d];show⟨Int.add_nonneg (by decide) V,Int.add_comm _ _▸X⟩
   rw[oR (r a).1 (r a).2,oR (r b).1 (r b).2]at E;let d:=Int.add_left_cancel ((WC (r a).1).symm.trans ((congrArg Int.ofNat E).trans (WC (r b).1)));rw[Int.add_comm (a:Int),Int.add_comm (b:Int)]at d;show MX (n:=8) B (UI (βU _) (xa Z (yd H (by decide)))) d)
  rw[yg]at this;show this
 ·refine now ?_;rw[aD];simp(disch:=omega) [bE g,v];let T:=oR (z:=w) (j:=1+x8%8) ⋯ ⋯;generalize UF w a7 (a0<|1+x8%8)=z at T;let S:0<z.length/\z.length<=8:=by let⟨V,X⟩:=Jh (n:=8) (by decide) x8;rw[T];show⟨Int.lt_toNat.mpr<|Int.add_pos_of_pos_of_nonneg (by decide) V,Int.toNat_le.mpr<|Int.add_comm _ _▸X⟩
  clear T lw d o p v;refine now ?_;rw[aD];simp(disch:=omega) [bE g,u];let t:0<=x9%(z.length:Int)/\x9%(z.length:Int)<z.length:=Jh S.1 _;generalize x9%(z.length:Int)=at' at t;let V:=oR (z:=z) t.1<|Int.le_of_lt t.2;let v:=DU (z:=z) (j:=at'+1) (Int.add_nonneg t.1<|by decide) t.2;let X:(UF z (a0<|at'+1) a7).length=z.length-(at'+1).toNat:=by rw[<-len_list,v,yx,len_list]
  let lA:(γK<|a0 at').length<=8:=by rw[V];show yd (Int.toNat_le.mpr<|Int.le_of_lt t.2) S.2
  let lB:(UF z (a0<|at'+1) a7).length<=8:=by rw[X];show yd (βU _) S.2
  let l:=BW (js:=[a7,a0 4,a0 2,a0 5,a0 3]) (tg:=gN 0) (tst:=dQ) (elt:=Xj (Xj (mSl (mV 1) mG<|mP<|mV 3)<|aB vAt (mV 2)<|aB cK (Xj (aB An (b7 (mV 4)<|mC<|PV.int 9)<|mC<|PV.int 8)<|aB Al (mC<|PV.int 5)<|mV 0)<|mC<|PV.int 26)<|mSl (mV 1) (mP<|aB aL (mV 3)<|mC<|PV.int 1) mG) (ms:=aA (mV 1) aC)
   (δ:=[a0 (.int c),a0 (.int m),a0<|.str Ct,a0 (.ref f),a0<|.str z,a0 (.int at')]) (h:=hC) (h1:=hC) (j:=m) (λi=>a0<|.str<|UF z a7 (a0 at')++(⟨#[97+((x9/8+5*(i:Int))%26).toNat]⟩:Str)++UF z (a0<|at'+1) a7) (by simp) ⋯
   (λi hi=>⟨_,rfl,λH G=>⟨rfl,by
    let y:=Jh (n:=26) (by decide)<|x9/8+5*(i:Int);let l:=EZ (i:=(x9/8+5*(i:Int))%26) y.1 y.2;let q3:(⟨#[97+((x9/8+5*(i:Int))%26).toNat]⟩:Str).length=1:=rfl;let q4:(γK (a0 at')++(⟨#[97+((x9/8+5*(i:Int))%26).toNat]⟩:Str)).length<=9:=by rw[J'];show Nat.succ_le_succ lA
    let hll:=zI;clear V X t o hi s;simp(disch:=omega) [dI,l,bE (G _ _ g),u]⟩⟩)
  refine now ?_;simp[l];have:=k ((zo m).map λ(i:Nat)=>γK (a0 at')++(⟨#[97+((x9/8+5*(i:Int))%26).toNat]⟩:Str)++UF z (a0 (at'+1)) a7) hC.length (hC++[.lst (((zo m).map λ(i:Nat)=>γK (a0 at')++(⟨#[97+((x9/8+5*(i:Int))%26).toNat]⟩:Str)++UF z (a0 (at'+1)) a7).map PV.str)]) aE (by simp) (by
   unfold List.Nodup;rw[Ud];refine(List.pairwise_lt_range (n:=m)).imp_of_mem λ{a b} s y B e=>?_;let Z:=Vu.mp y;let q:=Vu.mp s;let s1:=Cu (z:=z) t.1<|Int.le_of_lt t.2;let E:=congrArg (λx=>x.cps.toList[at'.toNat]?) e;simp only[app_list,s1,v]at E;let lt:(γZ 0).length=at'.toNat:=by rw[ya,len_list];show Nat.min_eq_left<|Int.toNat_le.mpr<|Int.le_of_lt t.2
   let f:=λb=>by
    have:=P0 (γZ 0) (List.drop (at'+1).toNat z.cps.toList) b
    rwa[lt]at this
   let r:∀i:Nat,(0:Int)<=(x9/8+5*(i:Int))%26:=λi=>(Jh (n:=26) (by decide) _).1;show MX (n:=26) (a:=5*a) (b:=5*b) (Nat.mul_lt_mul_of_pos_left B (by decide)) (UI (βU _) (Nat.lt_succ_of_le (Nat.mul_le_mul_left 5 (UW (xa Z H))))) ((WC (r a)).symm.trans ((congrArg Int.ofNat (Nat.add_left_cancel (yi ((f _).symm.trans (E.trans (f _)))))).trans (WC (r b)))))
  rw[yg]at this;show this
def P3(d)(S:d.seen.length<=100)(h)(Q)(k:∀H,tx H->Q (tP<|kyL d) H):(EY [dP d] h).W Q:=by
 refine W_fn ?_;let c:=yP (js:=[a7,a7]) (tg:=δb<|gCn (gN 0)<|gCn (gN 1) gNl) (tst:=dQ) (elt:=mV 1) (m:=b7 (mV 0)<|d3 1) (δ:=[a0<|dP d]) (h:=h) (h1:=h) (ys:=d.seen) (emb:=pv)
  (λq=>a0 (.int q.2)) (by simp[dP1,F0]) ⋯ (λq y=>⟨[a0<|.str q.1,a0 (.int q.2)],by simp[dI,pv],λz _=>⟨rfl,by simp⟩⟩)
 let e:d.seen.filterMap (λq=>a0<|PV.int q.2)=(d.seen.map (·.2)).map PV.int:=by rw[filterMap_some,yg];rfl
 rw[e]at c;let g:(h++[MO.lst ((d.seen.map (·.2)).map PV.int)])[h.length]?=a0 (.lst ((d.seen.map (·.2)).map _)):=aE;let x:=YX [MO.lst ((d.seen.map (·.2)).map PV.int)];change (EX [a0 _] h).W _;unfold EX;rw[sJ];simp only[Es,vB,Er,HM,Rs.bind_ok,HN,c,Et,BU g];generalize h++[MO.lst ((d.seen.map (·.2)).map _)]=hA at x;simp[dP0,pv0,pv1];show k _ x
variable{Q:PV->PH->Prop}
def Gx{ds:i_ Dd}(L:ds.length<=63)(w:∀d∈ds,d.seen.length<=100)(N:(ds.map (·.nm)).Nodup)(g:h[n]?=a0 (.lst<|ds.map dP))(k:∀o l H,tx H->h.length<=l->H[l]?=a0 (.lst<|o.map dP)->o.Perm ds->iS o->Q (.ref l) H):(mZ EY false (.ref n) h).W Q:=AQ (S:=shape [.inl 0,.inr "",.inl 0]) (vM g) ⋯ (F5 ds) (λ_ _=>rfl) (Cy kyL DW N) (λd D h Q K=>P3 d (w d D) h Q K) λo z x p O=>k o _ _ (x.trans<|Ext.app _ _) x.len aE p O
variable{kvs kvs':i_ (PV×PV)}
def F7(e:YK n=a0 kvs):aX (WY<|.dD kvs') n=a0 kvs':=by
 let H:∃o,h[n]?=a0 o:=by
  unfold aX at e;split at e
  ·show⟨_,by assumption⟩
  ·show⟨_,by assumption⟩
  ·cases e
 let⟨o,O⟩:=H;show tT<|bF O
def Jj(u)(s n)(hd)(h)(U:u.length<=1000):iM [.tup [pl u,.int s],.tup [.str hd,.int n]] h=.ok (pl<|u++[⟨s,hd,n,0⟩]) h:=by
 let w:(iM [.tup [pl u,.int s],.tup [.str hd,.int n]] h).W λp H=>p=pl (u++[⟨s,hd,n,0⟩])/\H=h:=by refine W_fn ?_;simp(disch:=(simp;omega)) [pL,Dq,pl,stp]
 let⟨p,H,e,rfl,rfl⟩:=gQ w;show e
abbrev oT(u:Ze 0)(s:Int)(hd:Str)(n:Int):Nat->Ze 0
 |0=>u++[⟨s,hd,n,0⟩]
 |k+1=>γL k++[⟨1,hd,n,((k+1:Nat):Int)⟩]
abbrev dM(u:Ze 0)(s:Int)(hd:Str)(n:Int)(m:Nat):i_ (Ze 0):=(zo m).map<|oT u s hd n
variable{hd:Str}{m:Nat}
def nT{u:Ze 0}{s:Int}{n:Int}:(K_ m).length=m:=by simp[dM]
def Jk{u:Ze 0}{s:Int}{n:Int}{k:Nat}(h:k<m):(K_ m)[k]?=a0 (γL k):=by simp[dM,h]
def zK{u:Ze 0}{s:Int}{n:Int}:K_ (m+1)=K_ m++[γL m]:=by simp[dM,List.range_succ]
def nU{u:Ze 0}{s:Int}{hd:Str}{n:Int}:∀k,(γL k).length=u.length+1+k
 |0=>by simp[oT]
 |k+1=>by simp[oT,nU k];omega
def Gy(u:Ze 0)(s n:Int)(hd w:Str)(S T:PV)(d:Str)(h:PH)(Q)(U:u.length<=900)(f:1<=w.length)(h1:w.length<=12)(k:Q (.ref h.length) (h++[.lst<|(αX 0).map pl])):
  (jB [.tup [.tup [.str hd,.int n],S,.tup [.str d,T,pl u,.int s,.str w]]] h).W Q:=by
 refine W_fn ?_;simp[nI,Dq,Jj u s n hd _ ⋯];refine Dr (lo:=1) (j:=w.length) (λq l H=>H=h++[.lst<|(K_<|q+1).map pl]/\∃X z y v t r p o x,l=[X,z,y,v,t,r,p,o,a0<|.str w,a0<|.str hd,a0 (.int n),a0 (.ref h.length),x]) ?_ ?_ ?_ ?_ ?_
 ·simp(disch:=omega)
 ·omega
 ·show⟨rfl,_,_,_,_,_,_,_,_,_,rfl⟩
 ·rintro q l H c ⟨rfl,X,z,y,v,t,r,p,o,x,rfl⟩;let e:(h++[MO.lst<|(K_<|q+1).map pl])[h.length]?=a0 (.lst _):=aE;let E:atI ((K_<|q+1).map pl) (1+(q:Int)-1)=a0 (pl<|oT u s hd n q):=by
   have:(1+(q:Int)-1)=(q:Int):=⋯;rw[this];show bZ (by rw[xf,Jk ⋯];rfl)
  let i:=nU (u:=u) (s:=s) (hd:=hd) (n:=n) q;let g:=nT (u:=u) (s:=s) (hd:=hd) (n:=n) (m:=q+1);simp(disch:=(simp;omega)) [jM,iX e,bE e,E,dZ e,pl];rw[zK (m:=q+1)];simp[oT,pl,stp];omega
 ·rintro l H ⟨rfl,X,z,y,v,t,r,p,o,x,rfl⟩;simp;have:w.length-1+1=w.length:=⋯;rw[this];show k
abbrev rwP(r:Ze 0×Nat):PV:=.tup [pl r.1,.str ⟨#[r.2]⟩]
abbrev jD(u:Ze 0)(s:Int)(hd:Str)(n:Int)(w:Str):cx 0:=(αX 0).zip w.cps.toList
abbrev kvR(R:cx 0):i_ (PV×PV):=R.map λr=>(pl r.1,.str ⟨#[r.2]⟩)
abbrev qR(R:cx 0)(r:Ze 0×Nat):cx 0:=if r.1∈R.map (·.1) then R.map λq=>if q.1=r.1 then r else q else R++[r]
def CA(R)(p):aK (kvR R) (pl p)=(R.find? λr=>decide (r.1=p)).map λr=>.str ⟨#[r.2]⟩:=by
 induction R with
 |nil=>rfl
 |cons r R i=>
  unfold kvR at i⊢;by_cases e:r.1=p
  ·simp[aK,e]
  ·have:pl r.1≠pl p:=λz=>e<|B2 z;simp[aK,e,this,i]
def CB(R)(p):(aK (kvR R)<|pl p).isSome=decide (p∈R.map (·.1)):=by rw[CA,Up];simp
def M5(R)(r):cL (kvR R) (pl r.1) (.str ⟨#[r.2]⟩)=kvR (qR R r):=by
 unfold cL qR;rw[CB];by_cases c:r.1∈R.map (·.1)
 ·rw[if_pos<|cA c,Xy 0];unfold kvR;rw[yg,yg];refine y1 λq _=>?_
  change(if pl q.1=pl r.1 then(pl q.1,PV.str ⟨#[r.2]⟩) else _)=(pl (if q.1=r.1 then r else q).1,PV.str ⟨#[(if q.1=r.1 then r else q).2]⟩)
  by_cases e:q.1=r.1
  ·rw[if_pos<|by rw[e],Yn 0,e]
  ·rw[if_neg<|λz=>e<|B2 z,W5 0]
 ·rw[if_neg<|cA c,YC 0];simp[kvR]
def Jl(R)(p):sO (kvR R) (pl p)=kvR (R.filter λr=>decide (r.1≠p)):=by
 unfold sO kvR;rw[List.filter_map];congr 1;refine List.filter_congr λr _=>?_
 change decide (pl r.1≠pl p)=decide _
 by_cases e:r.1=p
 ·simp[e]
 ·have:pl r.1≠pl p:=λz=>e<|B2 z;simp[e,this]
abbrev Asc(w:Str):Prop:=∀c∈w.cps.toList,c<128
abbrev wr(nm:Nm)(sn th:PV)(u:Ze 0)(s:Int)(w:Str):PV:=.tup [pv nm,sn,.tup [.str "write",th,pl u,.int s,.str w]]
variable{body:Ms}{h1:PH}{tg:Mg}
def P4{E:FE}{xs:x_ 0}(I:Nat->Ev->PH->Prop)(e:Xi h=.ok [.ref n,.str x] h1)(a:(x.cps.all λc=>decide (c<128))=true)(l:aH h1 n=a0 xs)(H:I 0 δ h1)(k:∀q δ h,I q δ h->tG n xs h=true)(s:∀(q) y δ h,(AH xs x)[q]?=a0 y->I q δ h->∃z,tg y δ=a0 z/\(body z h).W { nx:=I<|q+1,ct:=I<|q+1,rt:=E.rt,bk:=E.nx})(f:∀δ h,I (AH xs x).length δ h->YE h):(dH (ID ms) tg body δ h).W E:=by
 let g:(iE _ tg body _ δ h1).W E:=αW h1 H (λq y δ h _ X i=>⟨k q δ h i,by show s q y δ h X i⟩)<|λδ h i=>⟨k _ δ h i,f δ h<|cA i⟩;unfold dH ID;rw[e,Rs.bind_ok];unfold OO;dsimp only;rw[if_pos a,l];show g
def zL(u)(s n)(hd w):AH ((αX 0).map pl) w=(Y2 w).map rwP:=by unfold AH jD;rw[List.map_zip_eq_zipWith,List.zipWith_map_left];rfl
abbrev CC(h:PH)(a d:Nat)(R:cx 0):Prop:=h[a]?=a0 (.ins "Signs" [("kept",.ref d)])/\YK d=a0 (kvR R)
def CC.fld{a d:Nat}{R:cx 0}(t:δ9 R):aU "kept" (.ref a) h=.ok (.ref d) h:=bI t.1 rfl
variable{w:Str}
def M6(h:Asc w):(w.cps.all λc=>decide (c<128))=true:=by rw[Array.all_eq_true_iff_forall_mem];show λc H=>decide_eq_true<|h c<|cA H
def Jm(R)(r):(qR R r).length<=R.length+1:=by
 unfold qR;split
 ·rw[wd];omega
 ·simp
def zM(l:cx 0):∀R,(l.foldl qR R).length<=R.length+l.length:=by
 induction l with
 |nil=>intro R;simp
 |cons r l i=>intro R;have:=i<|qR R r;have:=Jm R r;simp only[VB,yw];omega
open H in
def Jn{a d:Nat}{R:cx 0}(t:δ9 R)(M:R.length<=100000)(u:Ze 0)(s n:Int)(hd w:Str)(S T:PV)(U:u.length<=900)(b:1<=w.length)(h1:w.length<=12)(c:Asc w)(Q:PV->PH->Prop)(k:∀H,(∀i o,i≠d->h[i]?=a0 o->H[i]?=a0 o)->aX H d=a0 (kvR<|(Y2 w).foldl qR R)->Q .non H):(jO [.ref a,wr (hd,n) S T u s w] h).W Q:=by
 refine W_fn ?_;let E:jB [wr (hd,n) S T u s w] h=.ok (.ref h.length) (h++[.lst<|(αX 0).map pl]):=by have:=Gy u s n hd w S T "write" h (λp H=>p=.ref h.length/\H=h++[.lst<|(αX 0).map pl]) U b h1 ⟨rfl,rfl⟩;let⟨p,H,e,rfl,rfl⟩:=gQ this;show e
 unfold jN;rw[aD];let j:vIx (wr (hd,n) S T u s w) (.int 2) h=.ok (.tup [.str "write",T,pl u,.int s,.str w]) h:=by simp[wr]
 simp[j];refine now ?_;let N:d<h.length:=by
  let g:=t.2;unfold aX at g;split at g
  ·rename_i e;show(X2 0).1
  ·rename_i e;show(X2 0).1
  ·cases g
 let v:(h++[MO.lst<|(αX 0).map pl])[h.length]?=a0 (.lst _):=aE;let A:tx (h++[MO.lst<|(αX 0).map pl]):=n7 _;generalize h++[MO.lst _]=hB at E v A;let D:a≠d:=λe=>by let g:=t.2;rw[<-e]at g;unfold aX at g;rw[t.1]at g;cases g
 let J:(Y2 w).length<=12:=by unfold jD;rw[List.length_zip,nT];omega
 refine P4 (n:=h.length) (x:=w) (h1:=hB) (λr z H=>(∀i o,i≠d->hB[i]?=a0 o->H[i]?=a0 o)/\aX H d=a0 (kvR<|((Y2 w).take r).foldl qR R)/\∃X l,z=[a0 (.ref a),a0<|wr (hd,n) S T u s w,a0<|.str w,X,l]) (by simp[E]) (M6 c) (by unfold aH;rw[v]) ?_ ?_ ?_ ?_
 ·refine⟨λ_ _ _ e=>e,?_,_,_,rfl⟩;let⟨o,O,_,Z⟩:=bV t.2;simpa using Z _ (A _ _ O)
 ·rintro r z H ⟨K,_⟩;unfold tG aH;rw[K _ _ ⋯ v];show PV.beqs_self _
 ·rintro r y z H Y ⟨K,G,X,l,rfl⟩;rw[zL,xf]at Y;let⟨q,V,rfl⟩:=xv.mp Y;refine⟨[a0 (.ref a),a0<|wr (hd,n) S T u s w,a0<|.str w,a0<|pl q.1,a0<|.str ⟨#[q.2]⟩],by simp[rwP],?_⟩;let m:(Y2 w).take (r+1)=(Y2 w).take r++[q]:=by rw[Ve,V];rfl
  let L:=zM ((Y2 w).take r) R;rw[ya]at L;let P:iZ (.ref d) (pl q.1) (.str ⟨#[q.2]⟩) H=a0 (H.set d<|.dD<|cL (kvR _) (pl q.1)<|.str ⟨#[q.2]⟩):=AE G (Jd _) (by simp[kvR];omega);rw[M5]at P;let f:aU "kept" (.ref a) H=.ok (.ref d) H:=bI (K _ _ D<|A _ _ t.1) rfl;unfold gI;simp[f,P];refine⟨λi o I O=>by rw[yt<|zj I];show K i o I O,?_⟩;rw[m,List.foldl_append];show F7 G
 ·rintro z H ⟨K,G,X,l,rfl⟩;rw[zL,wd,VG]at G;show k H (λi o I O=>K i o I<|A _ _ O) G
def DX{α β:Type}:∀{l:i_ (α×β)},(l.map (·.1)).Nodup->∀{a b:α×β},a∈l->b∈l->a.1=b.1->a=b
 |[],_,a,b,A,_,_=>by cases A
 |x::r,n,a,b,A,B,e=>by
  rw[xg,z7]at n;rcases wu.mp A with q|H
  ·rcases wu.mp B with z|h
   ·rw[q,z]
   ·show(n.1<|wo.mpr ⟨b,h,by rw[<-e,q]⟩).elim
  ·rcases wu.mp B with z|h
   ·show(n.1<|wo.mpr ⟨a,H,by rw[e,z]⟩).elim
   ·show DX n.2 H h e
abbrev SRt(os:cx 0):Prop:=os.Pairwise λa c=>bef c.1 a.1=false
def SRt.uniq{os cm:cx 0}(h:SRt os)(h':SRt cm)(p:os.Perm cm)(n:(os.map (·.1)).Nodup):os=cm:=by
 refine Vo (λa b H B l L=>?_) h h' p;let e:a.1=b.1:=by
  by_cases c:a.1=b.1
  ·show c
  ·have:=F4 c;rw[l,L]at this;cases this
 show DX n H (p.mem_iff.mpr B) e
def sX(r)(h)(R:r.1.length<=1000):eG [rwP r] h=.ok (rk r.1) h:=by
 let w:(eG [rwP r] h).W λp H=>p=rk r.1/\H=h:=by refine W_fn ?_;simp[pR,rwP,LY r.1 h R,rk]
 let⟨p,H,e,rfl,rfl⟩:=gQ w;show e
def CD{f:Fn}(hf:∀r h,r.1.length<=1000->f [rwP r] h=.ok (rk r.1) h){R:cx 0}(l:R.length<1000)(P:∀r∈R,r.1.length<=1000)(n:(R.map (·.1)).Nodup){x:PV}(e:kY x h=a0 (R.map rwP))(Q)(k:∀o H,tx H->o.Perm R->SRt o->Q (.ref H.length) (H++[.lst<|o.map rwP])):(gW f false 2 x h).W Q:=by
 refine IK e ⋯ ?_ (λa A c C z=>?_) (λr y h Q q=>?_) λo H X p w=>k o H X p (w.imp λ{a c} z=>by rw[OZ]at z;show z)
 ·have:=To (R.map (·.1))
  rwa[yg]at this
 ·let E:=B2<|OY z;rw[DX n A C E]
 ·rw[hf r h<|P r y];simpa using q h (Ext.refl h)
open H in
def tX(e:YK n=a0 kvs):∃o,h[n]?=a0 o/\tH (a0 o)=true/\iJ o=a0 (kvs.map λv=>.tup [v.1,v.2]):=by
 unfold aX at e;split at e
 ·rename_i k H;cases e;show⟨_,H,rfl,rfl⟩
 ·rename_i H;cases e;show⟨_,H,rfl,rfl⟩
 ·cases e
def Gz(R):(kvR R).map (λk=>PV.tup [k.1,k.2])=R.map rwP:=by unfold kvR;rw[yg];rfl
def Jo{a d:Nat}{R:cx 0}(t:δ9 R)(w:R.length<1000)(P:∀r∈R,r.1.length<=1000)(n:(R.map (·.1)).Nodup)(Q)(k:∀O H l,tx H->h.length<=l->H[l]?=a0 (.lst<|O.map rwP)->O.Perm R->SRt O->Q (.ref l) H):(lV [.ref a] h).W Q:=by
 refine W_fn ?_;unfold lT;let⟨o,z,y,i⟩:=tX t.2;rw[Gz]at i;let⟨_,_,D,_⟩:=bV t.2;let e:xK cF fN (mUn (aU "kept")<|mV 0) [a0 (.ref a)] h=.ok (.ref h.length) (h++[.vw 0 d]):=by simp[t.fld,D,vU z y]
 let L:=(YX [γM d]).len;simp only[sJ];refine(congrArg (λr=>Rs.W (Rs.bind r _) _) e).mpr ?_;show CD sX w P n (by rw[Cn aE<|Ext.app _ _ _ _ z,i]) _ λO H x p s=>k O _ _ ((n7 _).trans<|x.trans<|Ext.app _ _) (yd L x.len) aE p s
def M7(p:Ze 0):(pl p).isKt=true:=Jd p
def wO:∀{l:cx 0}{r:Ze 0×Nat},(l.map (·.1)).Nodup->r∈l->l.filter (λq=>decide (q.1=r.1))=[r]
 |[],r,_,h=>by cases h
 |x::l,r,n,h=>by
  rw[xg,z7]at n;rcases wu.mp h with rfl|h
  ·rw[List.filter_cons_of_pos<|by simp];congr 1;rw[List.filter_eq_nil_iff];show λq H e=>n.1<|wo.mpr ⟨q,H,cA e⟩
  ·have:x.1≠r.1:=λe=>n.1<|wo.mpr ⟨r,h,e.symm⟩;rw[List.filter_cons_of_neg<|cA this];show wO n.2 h
def zN{l:cx 0}{p:Ze 0×Nat->Bool}(n:(l.map (·.1)).Nodup):((l.filter p).map (·.1)).Nodup:=List.Sublist.nodup (βq WA) n
abbrev iV(R:cx 0)(g:i_ (Ze 0)):cx 0:=R.filter λr=>decide (r.1∉g)
abbrev inR(R:cx 0)(g:i_ (Ze 0)):cx 0:=R.filter λr=>decide (r.1∈g)
def rS(R)(g)(p):iV R (g++[p])=(iV R g).filter λr=>decide (r.1≠p):=by
 unfold iV;rw[List.filter_filter];refine List.filter_congr λr _=>?_;by_cases h:r.1∈g <;> by_cases H:r.1=p <;> simp[h,H]
def CF(R:cx 0)(p)(h:p∉R.map (·.1)):R.filter (λr=>decide (r.1≠p))=R:=by rw[List.filter_eq_self];show λr H=>decide_eq_true λe=>h<|wo.mpr ⟨r,H,e⟩
def M8{G R:cx 0}{g:i_ (Ze 0)}(h:(G++iV R g).Perm R):G.Perm (inR R g):=by
 let h2:(inR R g++iV R g).Perm R:=by
  have:=List.filter_append_perm (λr:Ze 0×Nat=>decide (r.1∈g)) R;let e:(λr:Ze 0×Nat=>!decide (r.1∈g))=λr=>decide (r.1∉g):=by funext r;simp
  rw[e]at this;show this
 show(List.perm_append_right_iff _).mp (h.trans h2.symm)
abbrev M9(h:PH)(a d:Nat)(P:PV)(R:cx 0)(g:i_ (Ze 0))(q:Nat)(δ:Ev)(h':PH):Prop:=
 ∃G x3,δ=[a0 (.ref a),a0 P,a0 (.ref h.length),x3]/\(∀i o,i≠d->h[i]?=a0 o->h'[i]?=a0 o)/\h'[h.length]?=a0 (.lst<|G.map rwP)/\aX h' d=a0 (kvR<|iV R<|g.take q)/\(G++iV R (g.take q)).Perm R
variable{h':PH}
def Jp{a d:Nat}{P:PV}{R:cx 0}{g:i_ (Ze 0)}{q:Nat}{p:Ze 0}{E:FE}(t:δ9 R)(lR:R.length<=100000)(nd:(R.map (·.1)).Nodup)(hq:g[q]?=a0 p)(I:M9 h a d P R g q δ h')(k:∀δ h',M9 h a d P R g (q+1) δ h'->YE h'):
  (fO (δ.set 3<|a0<|pl p) h').W E:=by
 let⟨G,x3,rfl,k1,k2,o,k4⟩:=I;let e:g.take (q+1)=g.take q++[p]:=by rw[Ve,hq];rfl
 let ad:a≠d:=λe=>by let g:=t.2;rw[<-e]at g;unfold aX at g;rw[t.1]at g;cases g
 let dl:d≠h.length:=λe=>by let⟨o,t,_⟩:=tX t.2;have:=(vz.mp t).1;omega
 let ef:∀h2,(∀i o,i≠d->h[i]?=a0 o->h2[i]?=a0 o)->aU "kept" (.ref a) h2=.ok _ h2:=λh2 kk=>bI (kk _ _ ad t.1) rfl;let e1:cX (pl p) (.ref d) h'=.ok (.bl (decide (p∈(iV R<|g.take q).map (·.1)))) h':=by rw[<-CB];show AO o<|Jd p
 let⟨_,_,hD,_⟩:=bV o;unfold fO;let i:((iV R<|g.take q).map (·.1)).Nodup:=zN nd;by_cases c:p∈(iV R<|g.take q).map (·.1)
 ·let⟨r,hr,er⟩:=wo.mp c;let lk:aK (kvR<|iV R<|g.take q) (pl p)=a0 (.str ⟨#[r.2]⟩):=by
   rw[CA];let e2:(iV R<|g.take q).find? (λx=>decide (x.1=p))=a0 r:=by have:=wO i hr;rw[er]at this;rw[<-List.head?_filter,this];rfl
   rw[e2];rfl
  let ep:=Iz o (M7 p) lk;rw[Jl]at ep;let lG:G.length<=100000:=by have:=k4.length_eq;rw[wq]at this;omega
  let g2:(h'.set d<|.dD<|kvR<|(iV R<|g.take q).filter λr=>decide (r.1≠p))[h.length]?=a0 (.lst<|G.map rwP):=by rw[yt dl];show k2
  let ap:=dZ (p:=rwP r) g2 (by rw[wd];omega);let x:iV R (g.take<|q+1)=(iV R<|g.take q).filter λr=>decide (r.1≠p):=by rw[e,rS]
  rw[<-x]at ep g2 ap;let u9:PV.tup [pl p,.str ⟨#[r.2]⟩]=rwP r:=by rw[<-er];rfl
  simp[ef h' k1,e1,c,iX k2,hD,ep,u9,ap];refine A5 ⟨G++[r],_,rfl,λi o hi t=>?_,?_,?_,?_⟩
  ·have:i≠h.length:=by have:=(vz.mp t).1;omega
   rw[yt<|zj this,yt<|zj hi];show k1 i o hi t
  ·rw[zv];show bF g2
  ·let⟨o,t,_,hh⟩:=bV<|F7 (kvs':=kvR<|iV R<|g.take<|q+1) o;refine hh _ ?_;rw[yt<|zj dl];show t
  ·rw[x];let e4:=List.filter_append_perm (λx:Ze 0×Nat=>decide (x.1=r.1))<|iV R<|g.take q;rw[wO i hr]at e4;let e5:(λx:Ze 0×Nat=>!decide (x.1=r.1))=λx=>decide (x.1≠p):=by funext x;rw[er];simp
   rw[e5]at e4;rw[wy];show(yf G e4).trans k4
 ·simp[ef h' k1,e1,c];refine A5 ⟨G,_,rfl,k1,k2,?_,?_⟩
  ·rw[e,rS,CF _ _ c];show o
  ·rw[e,rS,CF _ _ c];show k4
def P5{a d:Nat}{R:cx 0}(t:δ9 R)(S:R.length<=900)(Z:∀r∈R,r.1.length<=1000)(N:(R.map (·.1)).Nodup)(g)(Q)(k:∀O H l,(∀i o,i≠d->h[i]?=a0 o->H[i]?=a0 o)->aX H d=a0 (kvR<|iV R g)->h.length<=l->H[l]?=a0 (.lst<|O.map rwP)->O.Perm (inR R g)->SRt O->Q (.ref l) H):(nK [.ref a,.tup<|g.map pl] h).W Q:=by
 refine W_fn ?_;unfold nJ;rw[aD];simp;refine now ?_;rw[aD];let j:=YX [MO.lst []];let V:M9 h a d (.tup<|g.map pl) R g 0 [a0 (.ref a),a0<|.tup<|g.map pl,a0 (.ref h.length),a7] (h++[MO.lst []]):=by
  let e:iV R (g.take 0)=R:=by unfold iV;rw[List.filter_eq_self];intro r _;simp
  show⟨[],a7,rfl,λi o _ w=>j _ _ w,aE,by rw[e];show vN j t.2,by rw[e];show Vw _⟩
 let f:∀y H,M9 h a d (.tup<|g.map pl) R g g.length y H->Lt (aP<|kZ eG false 2<|mV 2) { nx:=λ_ h=>Q .non h,rt:=Q} y H:=by
  rintro y H ⟨G,M,rfl,U,u,m,K⟩;rw[VG]at m K;refine now ?_;simp only[sJ]
  change Rs.W (gW eG false 2 (.ref _) H) _
  let n:(G.map (·.1)).Nodup:=by have:=(K.map _).nodup_iff.mpr N;rw[zv]at this;show(Vg.mp this).1
  let T:G.length<1000:=by have:=K.length_eq;rw[wq]at this;omega
  refine CD sX T (λr Y=>Z r<|K.mem_iff.mp<|xr _ Y) n (DO u) _ λO v X p s=>?_;let c:Ext H (v++[MO.lst<|O.map rwP]):=X.trans<|Ext.app _ _;let L:h.length<=v.length:=by have:=(vz.mp u).1;have:=X.len;omega
  show k O _ _ (λi o I w=>c _ _<|U i o I w) (vN c m) L aE (p.trans<|M8 K) s
 refine HS (xs:=g.map pl) _ (.inl<|by simp) V ?_<|λy H b=>f y H<|cA b;intro q x y H X I;rw[xf]at X;let⟨p,P,rfl⟩:=xv.mp X;show⟨_,rfl,Jp t ⋯ N P I λ_ _ z=>z⟩
structure MkR where
 nm:Nm
 f:i_ St
 l:i_ St
 w:Str
 ho:i_ (i_ St×i_ St)
abbrev spP(p:Ze 0×Ze 0):PV:=.tup [pl p.1,pl p.2]
abbrev mkV(m:MkR):PV:=.tup [pv m.nm,pl m.f,pl m.l,.str m.w,.tup<|m.ho.map spP]
abbrev gZ(h:PH)(lm ls:Nat)(S:i_ MkR):Prop:=h[lm]?=a0 (.ins "Marks" [("standing",.ref ls)])/\h[ls]?=a0 (.lst<|S.map mkV)
variable{lm ls:Nat}
def gZ.fm{S:i_ MkR}(t:gZ h lm ls S)(x:tx h'):aU "standing" (.ref lm) h'=.ok (.ref ls) h':=bI (XW t.1) rfl
abbrev zO(S:i_ MkR)(m:MkR):i_ MkR:=if m.nm∈S.map (·.nm) then S else S++[m]
def Tr{m:MkR}:vIx (mkV m) (.int 0) h=.ok (pv m.nm) h:=by unfold mkV;simp
def M'{S:i_ MkR}(L:S.length<=1000)(t:gZ h lm ls S)(nm)(sn th)(f l)(w)(Q)(k:∀v,gZ v lm ls (zO S ⟨nm,f,l,w,[]⟩)->(∀n o,n≠ls->h[n]?=a0 o->v[n]?=a0 o)->h.length<=v.length->Q .non v):(lO [.ref lm,.tup [pv nm,sn,.tup [.str "mark",th,pl f,pl l,.str w]]] h).W Q:=by
 refine W_fn ?_;unfold lN;let C:=eO (m:=mUn (aU "standing")<|mV 0) (js:=[a7]) (tg:=gN 0) (tst:=dQ) (elt:=b7 (mV 0)<|d3 0) (δ:=[a0 (.ref lm),a0<|.tup [pv nm,sn,.tup [.str "mark",th,pl f,pl l,.str w]],a0<|pv nm,a0 sn,a0<|.tup [.str "mark",th,pl f,pl l,.str w]]) (h:=h)
  (λm=>a0<|pv m.nm) (by simp[t.fm<|Ext.refl _]) t.2 ⋯ (λm M=>⟨[a0<|mkV m],by simp[dI],λv X=>⟨rfl,by simp[Tr]⟩⟩)
 rw[filterMap_some]at C;rw[aD];simp;refine now ?_;let G:(h++[MO.lst<|S.map λm=>pv m.nm])[h.length]?=a0 (.lst _):=aE;let x:tx (h++[MO.lst<|S.map λm=>pv m.nm]):=n7 _;generalize h++[MO.lst _]=hA at C G x;let H:dR (pv nm) (.ref h.length) hA=.ok (.bl (!decide (nm∈S.map (·.nm)))) hA:=by
  rw[AN G rfl (by rw[List.all_map];show xi.mpr λy _=>rfl)];congr 3;rw[decide_eq_decide,show(S.map λm=>pv m.nm)=(S.map _).map pv by rw[yg];rfl];show OX
 let N:lm≠ls:=λz=>by let a:=t.1;rw[z,t.2]at a;cases a
 let g:=XW t.2;by_cases c:nm∈S.map (·.nm)
 ·rw[decide_eq_true c]at H;simp[C,H];refine k hA ⟨XW t.1,?_⟩ (λn o _ e=>XW e) x.len;rw[zO,Xy 0];show g
 ·rw[decide_eq_false c]at H;let P:=dZ (p:=mkV ⟨nm,f,l,w,[]⟩) g (by rw[wd];omega);let A:γC _ [.tup [pv nm,pl f,pl l,.str w,.tup []]] hA=.ok .non (hA.set ls<|.lst _):=P;simp[C,H,t.fm x,iX g,A];refine k _ ⟨aQ (XW t.1)<|zj N,?_⟩ (λn o H O=>aQ (XW O)<|zj H) (by rw[yo];show x.len);rw[zO,YC 0,bF g,zv];rfl
abbrev nV(S:Seen)(f l:Ze 0)(w:Str)(m:MkR):MkR:=if m.w=w/\cvB S m.nm=true then { m with ho:=m.ho++[(f,l)]} else m
def Jq(m)(L:m.ho.length<=1000)(nm:Nm)(sn)(th)(f l)(w)(h):qO [mkV m,.tup [pv nm,sv sn,.tup [.str "clear",th,pl f,pl l,.str w]]] h=.ok (mkV<|nV sn f l w m) h:=by
 let x:(qO [mkV m,.tup [pv nm,sv sn,.tup [.str "clear",th,pl f,pl l,.str w]]] h).W λq y=>q=mkV (nV sn f l w m)/\y=h:=by
  refine W_fn ?_;unfold AX;rw[aD];simp;refine⟨_,by simp[mkV];rfl,now ?_⟩;rw[aD];simp;refine now ?_;rw[aD];by_cases c:m.w=w
  ·cases C:cvB sn m.nm with
   |true=>
    let H:=oQ sn m.nm h;rw[C]at H;simp[c,H];refine now ?_;let v:aL (.tup<|m.ho.map spP) (.tup [.tup [pl f,pl l]]) h=.ok (.tup<|m.ho.map spP++[spP (f,l)]) h:=by rw[oH (by simp;omega)];rfl
    simp[v];rw[nV,if_pos ⟨c,C⟩];simp[mkV,c]
   |false=>have H:=oQ sn m.nm h;rw[C]at H;simp[c,H];rw[nV,if_neg (λz=>by rw[C]at z;show absurd z.2<|by decide)];simp[mkV,c]
  ·simp[c];rw[nV,if_neg<|λz=>c z.1];simp[mkV]
 let⟨q,y,e,rfl,rfl⟩:=gQ x;show e
def Jr{S:i_ MkR}(v:S.length<=1000)(y:∀m∈S,m.ho.length<=1000)(t:gZ h lm ls S)(nm:Nm)(sn)(th)(f l)(w)(Q)(k:∀H L,gZ H lm L (S.map<|nV sn f l w)->(∀n o,n≠lm->h[n]?=a0 o->H[n]?=a0 o)->h.length<=L->h.length<=H.length->Q .non H):(jQ [.ref lm,.tup [pv nm,sv sn,.tup [.str "clear",th,pl f,pl l,.str w]]] h).W Q:=by
 refine W_fn ?_;unfold jP;let c:=eO (m:=mUn (aU "standing")<|mV 0) (js:=[a7,a0 1]) (tg:=gN 0) (tst:=dQ) (elt:=aW 2 qO<|aA (mV 0)<|aA (mV 1) aC) (δ:=[a0 (.ref lm),a0<|.tup [pv nm,sv sn,.tup [.str "clear",th,pl f,pl l,.str w]]]) (h:=h)
  (λm=>a0<|mkV<|nV sn f l w m) (by simp[t.fm<|Ext.refl _]) t.2 ⋯ (λm M=>⟨[a0<|mkV m,a0<|.tup [pv nm,sv sn,.tup [.str "clear",th,pl f,pl l,.str w]]],by simp[dI],λH X=>⟨rfl,by simp[Jq m<|y m M]⟩⟩)
 rw[filterMap_some,show(S.map λm=>mkV _)=(S.map _).map mkV by rw[yg];rfl]at c;let x:=YX [MO.lst<|(S.map<|nV sn f l w).map mkV];let g:(h++[MO.lst<|(S.map<|nV sn f l w).map mkV])[h.length]?=_:=aE;simp[c,-yg];generalize h++[MO.lst<|(S.map _).map mkV]=hA at x g;refine⟨_,cW (XW t.1)<|by simp,?_⟩;show A5 ⟨bF<|x _ _ t.1,aQ g<|zj (λz=>by have:=(vz.mp t.1).1;omega)⟩ (λn o N O=>aQ (XW O)<|zj N) (wj _) (by rw[yo];show x.len)
def lW{α:Type}(c)(f:α->PV):∀s:ZH 0,s.filterMap (λx=>if c x=true then a0 (f x) else a7)=(s.filter c).map f
 |[]=>rfl
 |x::s=>by rw[V6,Wx];cases e:c x <;> simp[lW c f s]
@[reducible]noncomputable def Rws:=i_<|Nm×Int
inductive Lf where
 |cnt (i:Int)
 |cho (r:Rws)
 |bag (r:Rws)
 |txt (R:cx 0) (M:i_ MkR)
abbrev rw2(p:Nm×Int):PV:=.tup [pv p.1,.int p.2]
abbrev nW(h:PH)(cl:v_ 0):Lf->Prop
 |.cnt i=>∃c,cl=[c]/\h[c]?=a0 (.ins "Count" [("total",.int i)])
 |.cho r=>∃c s,cl=[c,s]/\h[c]?=a0 (.ins "Choice" [("standing",.ref s)])/\h[s]?=a0 (.lst<|r.map rw2)
 |.bag r=>∃c s,cl=[c,s]/\h[c]?=a0 (.ins "Bag" [("standing",.ref s)])/\h[s]?=a0 (.lst<|r.map rw2)
 |.txt R M=>∃c g m k s,cl=[c,g,m,k,s]/\h[c]?=a0 (.ins "Text" [("signs",.ref g),("marks",.ref m)])/\CC h g k R/\gZ h m s M
abbrev fK(d:Dd):Lf->Lf
 |.cnt i=>match d.ak with|.num _ v=>.cnt (i+v)|_=>.cnt i
 |.cho r=>match d.ak with|.num _ v=>.cho (r.filter (λp=>!XZ p.1)++[(d.nm,v)])|_=>.cho r
 |.bag r=>match d.ak with|.num w v=>(if w="put" then .bag (r++[(d.nm,v)]) else .bag (r.filter λp=>!decide (p.2=v) || !XZ p.1))|_=>.bag r
 |.txt R M=>match d.ak with
  |.wrt u s z=>.txt ((jD u s d.nm.1 d.nm.2 z).foldl qR R) M
  |.ct g=>.txt (iV R g) M
  |.mrk w f l z=>if w="mark" then .txt R (zO M ⟨d.nm,f,l,z,[]⟩) else .txt R (M.map<|nV d.seen f l z)
  |_=>.txt R M
abbrev Js(d:Dd):Lf->Prop
 |.cnt _=>∃v,d.ak=.num "add" v
 |.cho _=>∃v,d.ak=.num "choose" v
 |.bag _=>∃w v,d.ak=.num w v/\(w="put" \/ w="take")
 |.txt _ _=>(∃u s z,d.ak=.wrt u s z/\u.length<=900/\1<=z.length/\z.length<=3/\Asc z)\/(∃g,d.ak=.ct g/\g.length<=1000)\/∃w f l z,d.ak=.mrk w f l z/\(w="mark" \/ w="clear")
abbrev LB(q:Nat):Lf->Prop
 |.cnt _=>True
 |.cho r=>r.length<=q
 |.bag r=>r.length<=q
 |.txt R M=>R.length<=3*q/\(∀r∈R,r.1.length<=1000)/\(R.map (·.1)).Nodup/\M.length<=q/\∀m∈M,m.ho.length<=q
open H in
def Jt{P:Ze 0->Prop}{l:cx 0}:∀{R:cx 0},(∀r∈R,P r.1)->(∀r∈l,P r.1)->(R.map (·.1)).Nodup->(∀r∈l.foldl qR R,P r.1)/\((l.foldl qR R).map (·.1)).Nodup:=by
 induction l with
 |nil=>intro R a _ n;show⟨a,n⟩
 |cons x l i=>
  intro R a b n;let e:(qR R x).map (·.1)=if x.1∈R.map (·.1) then R.map (·.1) else R.map (·.1)++[x.1]:=by
   unfold qR;split
   ·rw[yg];refine y1 λq _=>?_
    change(if q.1=x.1 then x else q).1=q.1
    split
    ·rename_i z;show z.symm
    ·rfl
   ·rw[zv];rfl
  refine i (λr h=>?_) (λr h=>b r<|wb _ h) ?_
  ·have:r.1∈(qR R x).map (·.1):=wo.mpr ⟨r,h,rfl⟩;rw[e]at this;split at this
   ·let⟨y,H,z⟩:=wo.mp this;rw[<-z];show a y H
   ·rcases wg.mp this with t|t
    ·let⟨y,H,z⟩:=wo.mp t;rw[<-z];show a y H
    ·rw[wx.mp t];show b x wa
  ·rw[e];split
   ·show n
   ·rename_i z;rw[Vg];show⟨n,by simp,λu U v V w=>z (by rw[wx]at V;rw[<-V,<-w];show U)⟩
variable{L:Lf}
def LB.op{q:Nat}{d:Dd}(b:LB q L)(w:Js d L):LB (q+1) (fK d L):=by
 cases L with
 |cnt i=>let⟨v,e⟩:=w;simp[fK,e];trivial
 |cho r=>let⟨v,e⟩:=w;simp only[fK,e,LB,wq];show Nat.succ_le_succ<|yd (UZ _ _) b
 |bag r=>
  let⟨w,v,e,_⟩:=w;simp[fK,e];split
  ·simp only[LB,wq];show Nat.succ_le_succ b
  ·show Vz (yd (UZ _ _) b)
 |txt R M=>
  let⟨b1,j,p,b4,g⟩:=b;let M:=λm i=>Vz<|g m i;rcases w with⟨u,s,z,e,h1,h2,h3,_⟩|⟨g,e,_⟩|⟨w,f,l,z,e,_⟩
  ·simp[fK,e];let lw:(jD u s d.nm.1 d.nm.2 z).length<=3:=by unfold jD;rw[List.length_zip,nT];omega
   let⟨p1,p2⟩:=Jt (P:=λp=>p.length<=1000) j (l:=jD u s d.nm.1 d.nm.2 z) (λr f=>by
    let i:=(List.of_mem_zip<|show _∈(YY _ _ _).zip _ from f).1
    let⟨j,hj,ej⟩:=wo.mp i;rw[<-ej,nU];have:=Vu.mp hj;omega) p
   have:=zM (jD u s d.nm.1 d.nm.2 z) R;show⟨⋯,p1,p2,⋯,M⟩
  ·simp[fK,e];show⟨by have:=UZ (λr:Ze 0×Nat=>decide (r.1∉g)) R;unfold iV;omega,λr f=>j r (Uk.mp f).1,zN p,⋯,M⟩
  ·simp[fK,e];split
   ·refine⟨⋯,j,p,?_,λm i=>?_⟩
    ·unfold zO;split
     ·omega
     ·rw[wq];simp;show b4
    ·unfold zO at i;split at i
     ·show M m i
     ·rcases wg.mp i with t|t
      ·show M m t
      ·rw[wx.mp t];show zk _
   ·refine⟨⋯,j,p,by rw[wd];omega,λm i=>?_⟩;let⟨y,hy,rfl⟩:=wo.mp i;have:=g y hy;unfold nV;split
    ·rw[wq];simp;show this
    ·omega
variable{cn:Str}{v:Int}{s:Nat}
section
variable{d:Dd}
def CG{p:Nm×Int}:vIx (rw2 p) (.int 0) h=.ok (pv p.1) h:=by unfold rw2;simp
def Ju{p:Nm×Int}:vIx (rw2 p) (.int 1) h=.ok (.int p.2) h:=by unfold rw2;simp
def B6{s:PV}(g:h[c]?=a0 (.ins cn [("standing",s)]))(n):mW "standing" (.ref c) (.ref n) h=a0 (h.set c<|.ins cn [("standing",.ref n)]):=by have:=cW (f:="standing") (p:=.ref n) g (by simp);rw[this];rfl
def Jv(e:d.ak=.num "add" v)(g:h[c]?=a0 (.ins "Count" [("total",.int i)]))(k:Q .non (h.set c<|.ins "Count" [("total",.int<|i+v)])):(lM [.ref c,dP d] h).W Q:=by
 refine W_fn ?_;unfold lL;let E:dP d=.tup [Ye 0,YW 0,.tup [.str "add",βN 0,.int v]]:=by unfold dP Dd.act;rw[e];rfl
 rw[aD,E];simp;refine now ?_;let l:Wy ("total" : Str) [(("total" : Str),PV.int i)]=a0 _:=rfl;simp[EF,(qM g),Oy,l,(cW (f:="total") (p:=.int<|i+v) g<|by simp)];show k
abbrev Nw(h:PH)(c:Nat)(cn:Str)(r:Rws)(h':PH):Prop:=(∀(i:Nat) o,i≠c->h[i]?=a0 o->h'[i]?=a0 o)/\(∃s,h.length<=s/\h'[c]?=a0 (.ins cn [("standing",.ref s)])/\h'[s]?=a0 (.lst<|r.map rw2))/\h.length<=h'.length
def Jw{o:PV}{r:Rws}(g:h[c]?=a0 (.ins cn [("standing",o)]))(x:tx h1)(b:h.length<=s)(G:h1[s]?=a0 (.lst<|r.map rw2)):Nw h c cn r (h1.set c<|.ins cn [("standing",.ref s)]):=⟨λi o H e=>aQ (XW e)<|zj H,⟨s,b,bF<|x _ _ g,aQ G (by have:=(vz.mp g).1;omega)⟩,by rw[yo];show x.len⟩
def DY{r:Rws}(ea:d.ak=.num "choose" v)(lr:r.length<=1000)(g:h[c]?=a0 (.ins "Choice" [("standing",.ref s)]))(gs:h[s]?=a0 (.lst<|r.map rw2))(k:∀z,Nw h c "Choice" (r.filter (λp=>!XZ p.1)++[(d.nm,v)]) z->Q .non z):(jL [.ref c,dP d] h).W Q:=by
 refine W_fn ?_;unfold jK;let ed:dP d=.tup [Ye 0,YW 0,.tup [.str "choose",βN 0,.int v]]:=by unfold dP Dd.act;rw[ea];rfl
 let f1:∀{z:PH},tx z->aU "standing" (.ref c) z=.ok _ z:=λx=>bI (XW g) rfl;rw[aD,ed];simp;refine now ?_;simp;let z:=eO (js:=[a7,a0 3]) (tg:=gN 0) (tst:=qE<|aR<|aW 2 fW<|aA (mV 1)<|aA (b7 (mV 0)<|d3 0) aC) (elt:=mV 0) (m:=mUn (aU "standing")<|mV 0) (δ:=[a0 (.ref c),a0<|.tup [Ye 0,YW 0,.tup [.str "choose",βN 0,.int v]],a0<|pv d.nm,a0<|sv d.seen,a0<|.tup [.str "choose",βN 0,.int v],a7]) (h:=h)
  (λp=>if(!cvB _ p.1)=true then a0 (rw2 p) else a7) (by simp[f1 (Ext.refl _)]) gs ⋯ (λp hp=>⟨_,rfl,λz hx=>by
   let x:=oQ d.seen p.1 z;cases z:cvB _ p.1 with
   |true=>rw[z]at x;simp[dI,CG,x]
   |false=>rw[z]at x;simp[dI,CG,x]⟩)
 rw[lW (λp:Nm×Int=>!cvB _ p.1) rw2]at z;let lf:(r.filter λp=>!XZ p.1).length<=1000:=yd (UZ _ _) lr;generalize (r.filter λp=>!cvB _ p.1)=r1 at z lf k;rw[aD];simp[z];refine now ?_;let x:tx (h++[MO.lst<|r1.map rw2]):=n7 _;let g1:(h++[MO.lst<|r1.map rw2])[h.length]?=a0 (.lst _):=aE;generalize h++[MO.lst _]=h1 at g1 x;let p:αL (h1++[MO.lst [rw2 (d.nm,v)]]):=n7 _;let g2:(h1++[MO.lst [rw2 (d.nm,v)]])[h1.length]?=a0 (.lst [rw2 _]):=aE;let vp:=oJ (βI g1) g2 (by simp;omega);let e2:∀hz:PH,hz++[MO.lst [PV.tup [Ye 0,.int v]]]=hz++[MO.lst [rw2 (d.nm,v)]]:=λ_=>rfl;simp[e2];generalize h1++[MO.lst [rw2 _]]=h2 at g2 vp p;rw[vp];let x3:Ext h2 (h2++[MO.lst<|r1.map rw2++[rw2 (d.nm,v)]]):=n7 _;let z:(h2++[MO.lst<|r1.map rw2++[rw2 (d.nm,v)]])[h2.length]?=a0 (.lst<|(r1++[(d.nm,v)]).map rw2):=by rw[aE,zv];rfl
 let b3:=(x.trans p).len;generalize h2.length=l3 at z b3;generalize h2++[MO.lst<|r1.map rw2++[rw2 _]]=z at z x3;let x:=(x.trans p).trans x3;simp;show⟨_,B6 (XW g) l3,k _<|Jw g x b3 z⟩
def DZ{r:Rws}(hw:w="put" \/ w="take")(ea:d.ak=.num w v)(lr:r.length<=1000)(g:h[c]?=a0 (.ins "Bag" [("standing",.ref s)]))(gs:h[s]?=a0 (.lst<|r.map rw2))(k:∀z,Nw h c "Bag" (if w="put" then r++[(d.nm,v)] else r.filter λp=>!decide (p.2=v) || !XZ p.1) z->Q .non z):(pQ [.ref c,dP d] h).W Q:=by
 refine W_fn ?_;unfold pP;let ed:dP d=.tup [Ye 0,YW 0,.tup [.str w,βN 0,.int v]]:=by unfold dP Dd.act;rw[ea];rfl
 let f1:∀{z:PH},tx z->aU "standing" (.ref c) z=.ok (.ref s) z:=λx=>bI (XW g) rfl;rw[aD,ed];simp;refine now ?_;rcases hw with rfl|rfl
 ·let x:tx (h++[MO.lst [rw2 (d.nm,v)]]):=n7 _;let g2:(h++[MO.lst [rw2 (d.nm,v)]])[h.length]?=a0 _:=aE;let vp:=oJ (XW gs) g2 (by simp;omega);let e2:∀hz:PH,hz++[MO.lst [PV.tup [Ye 0,.int v]]]=hz++[MO.lst [rw2 (d.nm,v)]]:=λ_=>rfl;simp[e2,f1<|Ext.refl _];let p:=x.len;generalize h++[MO.lst [rw2 (d.nm,v)]]=h2 at g2 vp x p;rw[vp];let z:Ext h2 (h2++[MO.lst<|r.map rw2++[rw2 (d.nm,v)]]):=n7 _;let g3:(h2++[MO.lst<|r.map rw2++[rw2 (d.nm,v)]])[h2.length]?=a0 (.lst<|(r++[(d.nm,v)]).map rw2):=by rw[aE,zv];rfl
  generalize h2.length=l3 at g3 p;generalize h2++[MO.lst _]=h3 at g3 z;simp;refine⟨_,B6 ((x.trans z) _ _ g) l3,k _ ?_⟩;show Jw g (x.trans z) p g3
 ·let n1:¬ (xm "take")="put" := by decide +kernel
  let p:=eO (js:=[a7,a0 4,a0 3]) (tg:=gN 0) (tst:=Ar (aR<|aB jJ (b7 (mV 0)<|d3 1)<|aB vAt (mV 1)<|d3 2)<|qE<|aR<|aW 2 fW<|aA (mV 2)<|aA (b7 (mV 0)<|d3 0) aC) (elt:=mV 0) (m:=mUn (aU "standing")<|mV 0) (δ:=[a0 (.ref c),a0<|.tup [Ye 0,YW 0,.tup [.str "take",βN 0,.int v]],a0<|pv d.nm,a0<|sv d.seen,a0<|.tup [.str "take",βN 0,.int v]]) (h:=h) (h1:=h) (n:=s) (ys:=r)
   (λp=>if(!decide (p.2=v) || !XZ p.1)=true then a0 (rw2 p) else a7) (by simp[f1 (Ext.refl _)]) gs ⋯ (λp hp=>⟨_,rfl,λh3 hx=>by
    let x:=oQ d.seen p.1 h3;by_cases z:p.2=v
    ·cases z2:XZ p.1 with
     |true=>rw[z2]at x;simp[dI,CG,Ju,z,x]
     |false=>rw[z2]at x;simp[dI,CG,Ju,z,x]
    ·simp[dI,CG,Ju,z]⟩)
  rw[lW (λp:Nm×Int=>!decide (p.2=v) || !XZ p.1) rw2]at p;let x:tx (h++[MO.lst<|(r.filter λp=>!decide (p.2=v) || !XZ p.1).map rw2]):=n7 _;let gx:(h++[MO.lst<|(r.filter λp=>!decide (p.2=v) || !XZ p.1).map rw2])[h.length]?=_:=aE;generalize h++[MO.lst _]=hA at x gx p;simp[n1,p];show⟨_,B6 (XW g) _,k _<|Jw g x (wj _) gx⟩
end
variable{cl:v_ 0}
def nW.head(x:γN L):cl.head?=a0 (cl.headD 0):=by
 cases L with
 |cnt i=>let⟨c,rfl,_⟩:=x;rfl
 |cho r=>let⟨c,s,rfl,_⟩:=x;rfl
 |bag r=>let⟨c,s,rfl,_⟩:=x;rfl
 |txt R M=>let⟨c,g,m,k,s,rfl,_⟩:=x;rfl
def nW.keep(x:γN L)(k:∀i∈cl,∀o,h[i]?=a0 o->h'[i]?=a0 o):nW h' cl L:=by
 cases L with
 |cnt i=>let⟨c,rfl,a⟩:=x;show⟨c,rfl,k _ (by simp) _ a⟩
 |cho r=>let⟨c,s,rfl,a,b⟩:=x;show⟨c,s,rfl,k _ (by simp) _ a,k _ (by simp) _ b⟩
 |bag r=>let⟨c,s,rfl,a,b⟩:=x;show⟨c,s,rfl,k _ (by simp) _ a,k _ (by simp) _ b⟩
 |txt R M=>let⟨c,g,m,t,s,rfl,a,b,e⟩:=x;let⟨o,O,_,H⟩:=bV b.2;show⟨c,g,m,t,s,rfl,k _ (by simp) _ a,⟨k _ (by simp) _ b.1,H _<|k _ (by simp) _ O⟩,k _ (by simp) _ e.1,k _ (by simp) _ e.2⟩
def nW.lt(x:γN L):∀i∈cl,i<h.length:=by
 let z:∀{i o},h[i]?=a0 o->i<h.length:=λe=>(X2 0).1;cases L with
 |cnt i=>let⟨c,rfl,a⟩:=x;intro i H;simp at H;rw[H];show z a
 |cho r=>let⟨c,s,rfl,a,b⟩:=x;intro i H;simp at H;rcases H with rfl|rfl;show z a;show z b
 |bag r=>let⟨c,s,rfl,a,b⟩:=x;intro i H;simp at H;rcases H with rfl|rfl;show z a;show z b
 |txt R M=>
  let⟨c,g,m,t,s,rfl,a,b,e⟩:=x;let⟨o,O,_,_⟩:=bV b.2;intro i H;simp at H;rcases H with rfl|rfl|rfl|rfl|rfl
  ·show z a
  ·show z b.1
  ·show z e.1
  ·show z O
  ·show z e.2
variable{l:Nat}
def eS(t:YK n=a0 kvs)(g:h[l]?=a0 o)(N:tH (a0 o)=false):l≠n:=λz=>by
 let⟨O,e,q,_⟩:=tX t;rw[<-z,g]at e;cases e
 rw[N]at q;cases q
variable{gs:i_ (Str×PV)}
def Jx{a b:Str}{fs:i_ (Str×PV)}(n:a≠b):MO.ins a fs≠.ins b gs:=λz=>n (by injection z)
def P6{t:Nat}(k:∀(i) o,i≠t->h[i]?=a0 o->h'[i]?=a0 o)(e:∃o,h'[t]?=a0 o):h.length<=h'.length:=by let⟨o,e⟩:=e;let l:=(X2 0).1;apply Nat.le_of_not_lt;intro z;have:=(vz.mp<|k _ _ ⋯ (Uc z)).1;omega
abbrev Hrd(h:PH)(cl:v_ 0)(L:Lf)(h':PH):Prop:=∃gb,(∀(i:Nat) o,i∉cl->h[i]?=a0 o->h'[i]?=a0 o)/\nW h' gb L/\(∀i∈gb,i∈cl\/h.length<=i)/\gb.head?=cl.head?/\h.length<=h'.length
variable{M:i_ MkR}
def Mb{d:Dd}{g t:Nat}{R:cx 0}{q:Nat}(b:LB q (.txt R M))(hq:q<=60)(w:Js d (.txt R M))(a:h[c]?=a0 (.ins "Text" [("signs",.ref g),("marks",.ref m)]))(S:CC h g t R)(K:gZ h m s M)(k:∀y,Hrd h [c,g,m,t,s] (fK d<|.txt R M) y->Q .non y):(nM [.ref c,dP d] h).W Q:=by
 refine W_fn ?_;unfold nL;let⟨b1,B,J,b4,I⟩:=b;let Z:aU "signs" (.ref c) h=.ok (.ref g) h:=bI a rfl;let F:aU "marks" (.ref c) h=.ok (.ref m) h:=bI a rfl;let U:c≠t:=eS S.2 a rfl;let P:g≠t:=eS S.2 S.1 rfl;let N:m≠t:=eS S.2 K.1 rfl;let r:s≠t:=eS S.2 K.2 rfl;let n:∀{i j:Nat}{o o':MO},h[i]?=a0 o->h[j]?=a0 o'->o≠o'->i≠j:=λe C z q=>by rw[q,C]at e;show z (yi e).symm
 let⟨ot,X,_,Y⟩:=bV S.2;rcases w with⟨u,D,z,e,h1,h2,h3,A⟩|⟨G,e,l1⟩|⟨w,f,l,z,e,hw⟩
 ·let E:dP d=wr (d.nm.1,d.nm.2) (YW 0) (βN 0) u D z:=by unfold dP Dd.act wr;rw[e];rfl
  rw[aD,E];simp[wr];refine now ?_;simp[mM,mMx "write" S.1 rfl,Cr,Z];refine Jn S ⋯ u D d.nm.2 d.nm.1 z (YW 0) (βN 0) h1 h2 ⋯ A _ λy p T=>k y <|⟨[c,g,m,t,s],λi o H O=>p i o (λz=>H<|by simp[z]) O,?_,λi H=>.inl H,rfl,?_⟩
  ·simp only[fK,e];show⟨c,g,m,t,s,rfl,βI U a,⟨βI P S.1,T⟩,βI N K.1,βI r K.2⟩
  ·show P6 p (let ⟨o,e,_⟩:=bV T;⟨o,e⟩)
 ·let E:dP d=.tup [Ye 0,YW 0,.tup [.str "cut",βN 0,.tup<|G.map pl]]:=by unfold dP Dd.act;rw[e];rfl
  let x:¬ (xm "cut")="write" := by decide +kernel
  rw[aD,E];simp;refine now ?_;simp[x,mM,mMx "cut" S.1 rfl,J6,Z];refine P5 S ⋯ B J G _ λos y lr p T L hl _ _=>k y <|⟨[c,g,m,t,s],λi o H O=>p i o (λz=>H<|by simp[z]) O,?_,λi H=>.inl H,rfl,zi<|UI L (vz.mp hl).1⟩;simp only[fK,e];show⟨c,g,m,t,s,rfl,βI U a,⟨βI P S.1,T⟩,βI N K.1,βI r K.2⟩
 ·let E:dP d=.tup [Ye 0,YW 0,.tup [.str w,βN 0,pl f,pl l,.str z]]:=by unfold dP Dd.act;rw[e];rfl
  rcases hw with rfl|rfl
  ·let x:¬ (xm "mark")="write" /\ ¬ (xm "mark")="cut" := by decide +kernel
   rw[aD,E];simp;refine now ?_;simp[x.1,x.2,mM,mMx "mark" K.1 rfl,EU,F];refine M' ⋯ K d.nm (YW 0) (βN 0) f l z _ λy v p L=>k y <|⟨[c,g,m,t,s],λi o H O=>p i o (λz=>H<|by simp[z]) O,?_,λi H=>.inl H,rfl,L⟩;simp only[fK,e];show⟨c,g,m,t,s,rfl,βI (n a K.2<|by simp) a,⟨βI (n S.1 K.2<|by simp) S.1,Y _<|p _ _ (zj r) X⟩,v⟩
  ·let x:¬ (xm "clear")="write" /\ ¬ (xm "clear")="cut" /\ ¬ (xm "clear")="mark" := by decide +kernel
   rw[aD,E];simp;refine now ?_;simp[x.1,x.2.1,x.2.2,mM,mMx "clear" K.1 rfl,Cs,F];refine Jr ⋯ (λm hm=>by have:=I m hm;omega) K d.nm d.seen (βN 0) f l z _ λy V v p ll L=>k y <|⟨[c,g,m,t,V],λi o H O=>p i o (λz=>H<|by simp[z]) O,?_,λi H=>?_,rfl,L⟩
   ·simp only[fK,e,if_neg x.2.2];show⟨c,g,m,t,V,rfl,βI (n a K.1<|Jx<|by decide +kernel) a,⟨βI (n S.1 K.1<|Jx<|by decide +kernel) S.1,Y _<|p _ _ (zj N) X⟩,v⟩
   ·simp at H⊢;rcases H with z|z|z|z|z
    ·show .inl (.inl z)
    ·show .inl (.inr<|.inl z)
    ·show .inl (.inr<|.inr<|.inl z)
    ·show .inl (.inr<|.inr<|.inr<|.inl z)
    ·show .inr (z▸ll)
open H in
def zP{d:Dd}{q:Nat}(x:γN L)(b:LB q L)(f:q<=60)(w:Js d L)(E:Xi h=.ok [dP d] h)(k:∀y,Hrd h cl (fK d L) y->Q .non y):(mMe "hear" 1 eI ms δ (.ref<|cl.headD 0) h).W Q:=by
 cases L with
 |cnt i=>let⟨c,rfl,a⟩:=x;let⟨v,e⟩:=w;simp[mMx "hear" a rfl,eI,E];refine Jv e a (k _ ⟨[c],λi o H O=>aQ O (λz=>H (by simp[z])),?_,λi H=>.inl H,rfl,by simp⟩);simp[fK,e];show⟨c,rfl,bF a⟩
 |cho r=>
  let⟨c,s,rfl,a,g⟩:=x;let⟨v,e⟩:=w;let n:¬ (xm "Choice")="Count" := by decide +kernel
  simp[mMx "hear" a rfl,eI,E,n];refine DY e (yd b ⋯) a g λy w0=>?_;let⟨p,⟨S,l,u,Z⟩,j⟩:=w0;refine k _ ⟨[c,S],λi o H O=>p i o (λz=>H<|by simp[z]) O,?_,λi H=>?_,rfl,j⟩
  ·simp[fK,e];show⟨c,S,rfl,u,Z⟩
  ·simp at H⊢;rcases H with z|z
   ·show .inl (.inl z)
   ·show .inr (z▸l)
 |bag r=>
  let⟨c,s,rfl,a,g⟩:=x;let⟨w,v,e,Y⟩:=w;let n:¬ (xm "Bag")="Count" /\ ¬ (xm "Bag")="Choice" := by decide +kernel
  simp[mMx "hear" a rfl,eI,E,n.1,n.2];refine DZ Y e (yd b ⋯) a g λy w0=>?_;let⟨p,⟨S,l,u,Z⟩,j⟩:=w0;refine k _ ⟨[c,S],λi o H O=>p i o (λz=>H<|by simp[z]) O,?_,λi H=>?_,rfl,j⟩
  ·simp[fK,e];split
   ·rename_i q;rw[if_pos q]at Z;show⟨c,S,rfl,u,Z⟩
   ·rename_i q;rw[if_neg q]at Z;show⟨c,S,rfl,u,Z⟩
  ·simp at H⊢;rcases H with z|z
   ·show .inl (.inl z)
   ·show .inr (z▸l)
 |txt R M=>
  let⟨c,g,m,t,s,rfl,a,G,K⟩:=x;let n:¬ (xm "Text")="Count" /\ ¬ (xm "Text")="Choice" /\ ¬ (xm "Text")="Bag" := by decide +kernel
  simp[mMx "hear" a rfl,eI,E,n.1,n.2.1,n.2.2];show Mb b f w a G K k
variable{ps:x_ 0}
def nX{f:Fn}(e:Xi h=.ok ps h1)(l:ps.length=n)(w:(f (.ref h1.length::ps)<|h1++[.ins cn []]).W λv H=>v=.non/\Q (.ref h1.length) H):(gL cn n f ms δ h).W Q:=by let⟨v,H,E,rfl,q⟩:=gQ w;rw[mY,e,Rs.bind_ok,if_pos l,E,Rs.bind_ok];rw[BS];show q
def Jy{m:Me}{E:FE}(e:Xn h=.ok (.ref n) h1)(g:h1[n]?=a0 (.lst []))(k:YE h1):(dH (aV m) tg body δ h).W E:=rF (λ_ z H=>z=δ/\H=h1) e g ⟨rfl,rfl⟩ (λ_ _ _ _ i=>i.2▸g) (λq x _ _ X=>by simp at X) λ_ _ i=>i.1▸i.2▸k
def B7{f:Str}{fs:i_ (Str×PV)}{a:Nat}{r:Ev}{E:FE}(g:h[a]?=a0 (.ins cn fs))(l:fs.length<1000)(k:∀H,(∀(i) o,i≠a->h[i]?=a0 o->H[i]?=a0 o)->H[a]?=a0 (.ins cn<|mH f (.ref h.length) fs)->H[h.length]?=a0 (.dK [])->H.length=h.length+1->E.nx (a0 (.ref a)::r) H):(cN f (mV 0) kQ (a0 (.ref a)::r) h).W E:=by let A:=(vz.mp g).1;simp;refine⟨_,cW (ZF g) l,k _ (λi o I e=>aQ (ZF e)<|zj I) (bF<|Ext.app _ _ _ _ g) (aQ aE ⋯)<|by simp⟩
def Jz{p q:Nm}:bK (pv p) (pv q) h=.ok (.bl<|decide (p=q)) h:=by
 unfold pv;rw[IV rfl rfl];congr 2;rw[decide_eq_decide];show⟨λz=>by injection z with z1 z2;injection z1 with z1;injection z2 with z2 _;injection z2 with z2;show Prod.ext z1 z2,λz=>by rw[z]⟩
def Mc{p:Nm}:bK (pv p) (.tup [.str "",.int 0]) h=.ok (.bl<|decide (p=root)) h:=Jz (q:=root)
abbrev lf0(k:Str):jh Lf:=if k="count" then a0 (.cnt 0) else if k="choice" then a0 (.cho []) else if k="bag" then a0 (.bag []) else if k="text" then a0 (.txt [] []) else a7
abbrev LfN(B:Nat)(h:PH)(L:Lf):Prop:=∃cl,γN L/\cl.headD 0=B/\∀i∈cl,B<=i
def JA:¬ (xm "choice")="count" /\ ¬ (xm "bag")="count" /\ ¬ (xm "bag")="choice" /\ ¬ (xm "text")="count" /\ ¬ (xm "text")="choice" /\ ¬ (xm "text")="bag" := by decide +kernel
def Md(x:tx h1)(N:h.length<=n):tx (h1.set n o):=λi o e=>have H:=(X2 0).1;aQ (XW e) (zr<|xa H N)
def wQ{E:FE}{r:Ev}(k:∀H,tx H->(∃s,h.length<=s/\H[h.length]?=a0 (.ins cn [("standing",.ref s)])/\H[s]?=a0 (.lst []))->h.length<H.length->E.nx (a0 (.ref h.length)::r) H):(cN "standing" (mV 0) (cO aC) (a0 (.ref h.length)::r)<|h++[.ins cn []]).W E:=by
 let g:(h++[MO.ins cn []])[h.length]?=a0 _:=aE;let X:tx (h++[MO.ins cn []]):=n7 _;let l:(h++[MO.ins cn []]).length=h.length+1:=by simp
 generalize h++[MO.ins cn []]=hA at g X l;let x:Ext hA (hA++[MO.lst []]):=n7 _;simp;refine⟨_,cW (XW g)<|by simp,k _ (Md (X.trans x)<|wj _) ⟨hA.length,⋯,bF<|x _ _ g,aQ aE ⋯⟩ ?_⟩;rw[yo,wq,l];show Nat.lt_succ_of_lt<|Vp _
def B8{k:Str}(K:k="count" \/ k="choice" \/ k="bag" \/ k="text" \/ k="map" \/ k="row")(k0:lf0 k=a7->Q .non h)(i:∀L H,lf0 k=a0 L->tx H->LfN h.length H L->h.length<H.length->Q (.ref h.length) H):(bR [.str k] h).W Q:=by
 let⟨v,M,t,n4,n5,n6⟩:=JA;refine W_fn ?_;unfold rQ;rcases K with rfl|rfl|rfl|rfl|K
 ·rw[aD,cD];simp[-mY];refine nX (ps:=[]) (h1:=h) rfl rfl <|W_fn ?_;unfold fF;let g:(h++[MO.ins "Count" []])[h.length]?=a0 (.ins "Count" []):=aE;simp;refine⟨_,cW g<|by simp,?_⟩;show i (.cnt 0) _ rfl (Md (n7 _)<|wj _) ⟨[h.length],⟨_,rfl,bF g⟩,rfl,by simp⟩ (by rw[yo];show(by simp))
 ·rw[aD,cD];simp[v];refine now ?_;rw[aD,cD];simp[-mY];refine nX (ps:=[]) (h1:=h) rfl rfl <|W_fn ?_;unfold eQ;show wQ λH x ⟨s,G,g,z⟩ l=>⟨rfl,i (.cho []) H (by simp[lf0,v]) x ⟨[h.length,s],⟨_,s,rfl,g,z⟩,rfl,by simp;show G⟩ l⟩
 ·rw[aD,cD];simp[M];refine now ?_;rw[aD,cD];simp[t];refine now ?_;rw[aD,cD];simp[-mY];refine nX (ps:=[]) (h1:=h) rfl rfl <|W_fn ?_;unfold iN;show wQ λH x ⟨s,G,g,z⟩ l=>⟨rfl,i (.bag []) H (by simp[lf0,M,t]) x ⟨[h.length,s],⟨_,s,rfl,g,z⟩,rfl,by simp;show G⟩ l⟩
 ·rw[aD,cD];simp[n4];refine now ?_;rw[aD,cD];simp[n5];refine now ?_;rw[aD,cD];simp[n6];refine now ?_;rw[aD,cD];simp[-mY];refine nX (ps:=[]) (h1:=h) rfl rfl <|W_fn ?_;unfold gH;let g:(h++[MO.ins "Text" []])[h.length]?=a0 (.ins "Text" []):=aE;let x1:tx (h++[MO.ins "Text" []]):=n7 _;let l1:(h++[MO.ins "Text" []]).length=h.length+1:=by simp
  generalize h++[MO.ins "Text" []]=hA at g x1 l1;rw[aD,DE];refine nX (ps:=[]) (h1:=hA) rfl rfl <|W_fn ?_;unfold fG;refine B7 (f:="kept") aE (by simp) λB kB u v lB=>⟨rfl,?_⟩;let E:Ext hA B:=λi o e=>kB _ _ (by have:=(X2 0).1;omega)<|Ext.app _ _ _ _ e;simp;refine⟨_,cW (E _ _ g)<|by simp,now ?_⟩;let C:(ZC<|MO.ins "Text"<|mH "signs" (.ref hA.length) [])[h.length]?=_:=bF<|E _ _ g;let nA:hA.length≠h.length:=⋯
  let S:(ZC<|MO.ins "Text"<|mH "signs" (.ref hA.length) [])[hA.length]?=_:=aQ u<|zj nA;let D:(ZC<|MO.ins "Text"<|mH "signs" (.ref hA.length) [])[(hA++[MO.ins "Signs" []]).length]?=_:=aQ v (show h.length≠(hA++[MO.ins "Signs" []]).length by rw[wq];omega);let xC:tx (ZC<|MO.ins "Text"<|mH "signs" (.ref hA.length) []):=Md (x1.trans E)<|wj _;let lC:h.length<(ZC<|MO.ins "Text"<|mH "signs" (.ref hA.length) []).length:=by rw[yo,lB,wq];omega
  generalize B.set h.length _=hC at C S D xC lC;rw[DE];refine nX (ps:=[]) (h1:=hC) rfl rfl <|W_fn ?_;unfold fH;refine wQ λhE o E lE=>⟨rfl,?_⟩;let⟨s,sC,M,t⟩:=E;simp;refine⟨_,cW (o _ _ C)<|show 1<1000 by decide,?_⟩;let T:=o _ _ C;let o1:=o _ _ S;let o2:=o _ _ D;let d:hA.length≠h.length:=⋯
  let y:hC.length≠h.length:=⋯;let w:s≠h.length:=⋯;refine i (.txt [] []) _ (by simp[lf0,n4,n5,n6]) (Md (xC.trans o)<|wj _) ⟨[h.length,hA.length,hC.length,(hA++[MO.ins "Signs" []]).length,s],⟨_,_,_,_,s,rfl,bF T,⟨aQ o1<|zj d,tS<|aQ o2<|zj (by rw[wq];omega)⟩,aQ M<|zj y,aQ t<|zj w⟩,rfl,λi I=>?_⟩ ?_
  ·simp at I;rcases I with q|q|q|q|q <;> omega
  ·rw[yo];omega
 ·let u:¬ k="count" /\ ¬ k="choice" /\ ¬ k="bag" /\ ¬ k="text" := by rcases K with rfl|rfl <;> decide +kernel
  rw[aD,cD];simp[u.1];refine now ?_;rw[aD,cD];simp[u.2.1];refine now ?_;rw[aD,cD];simp[u.2.2.1];refine now ?_;rw[aD,cD];simp[u.2.2.2];refine now ?_;simp;show k0 (by simp[lf0,u])
abbrev fnd{β:Type}:i_ (Nm×β)->Nm->jh β
 |[],_=>a7
 |x::M,p=>if x.1=p then a0 x.2 else fnd M p
abbrev oU{β:Type}(f:β->PV)(x:Nm×β):PV×PV:=(pv x.1,f x.2)
abbrev Mf{β:Type}(M:i_ (Nm×β))(p:Nm)(r:β):i_ (Nm×β):=if(fnd M p).isSome then M.map (λx=>if x.1=p then(x.1,r) else x) else M++[(p,r)]
def rT{β:Type}(f:β->PV)(p:Nm):∀M,aK (M.map<|oU f) (pv p)=(fnd M p).map f
 |[]=>rfl
 |x::M=>by
  change aK ((pv x.1,f x.2)::M.map _) _=_
  unfold aK fnd;by_cases e:x.1=p
  ·rw[if_pos<|by rw[e],Yn 0];rfl
  ·rw[if_neg<|λz=>e<|wN z,W5 0,rT f p M]
def MY{β:Type}(f)(M)(p:Nm)(r:β):cL (M.map<|oU f) (pv p) (f r)=(Mf M p r).map (oU f):=by
 unfold cL Mf;rw[rT];cases e:fnd M p with
 |none=>simp[oU]
 |some z=>
  simp only[Option.isSome_some,if_true,yg];apply y1;intro x _
  change(if pv x.1=pv p then _ else oU f x)=oU f (if x.1=p then _ else x)
  by_cases e:x.1=p
  ·rw[if_pos<|show pv x.1=pv p by rw[e],Yn 0];rfl
  ·rw[if_neg<|λz=>e<|wN z,W5 0]
def B9{β:Type}{M:i_ (Nm×β)}{p:Nm}{r:β}(h:fnd M p=a0 r):(p,r)∈M:=by
 induction M with
 |nil=>cases h
 |cons x M i=>
  unfold fnd at h;by_cases e:x.1=p
  ·rw[Yn 0]at h;cases h
   rw[<-e];show wa
  ·rw[W5 0]at h;show YI<|i h
def Mh{β:Type}{M:i_ (Nm×β)}{p:Nm}:(fnd M p).isSome=true↔p∈M.map (·.1):=by
 induction M with
 |nil=>simp[fnd]
 |cons x M i=>
  unfold fnd;by_cases e:x.1=p
  ·rw[Yn 0];simp[e]
  ·rw[W5 0,i,xg,wu];show⟨.inr,λz=>z.resolve_left λq=>e q.symm⟩
def MZ{xs:x_ 0}{p:PV}(e:YK n=a0 kvs)(k:(ZL 0).ky 6=true)(l:XS (.tup xs)=a0 p):vAt (.ref n) (.tup xs) h=.ok p h:=by
 let K:(ZL 0).isKt=true:=k;have:mT (.tup xs) (.ref n) h=a0 (XS<|.tup xs):=by simp[mT,K,e]
 unfold vAt;rw[this,l]
def lX(t:YK n=a0 kvs)(k:∀o,h[n]?=a0 o->h'[n]?=a0 o):aX h' n=a0 kvs:=by let⟨o,O,_,H⟩:=bV t;show H _<|k o O
structure En where
 nm:Nm
 kd:Str
 hd:PV
 sp:PV
 lf:jh Lf
abbrev pS(e:En):PV:=.tup [.str e.kd,e.hd,e.sp]
abbrev tE(E:i_ En):i_ (Nm×En):=E.map λe=>(e.nm,e)
abbrev mdL(E:i_ En):i_ (Nm×PV):=E.map λe=>(e.nm,pS e)
abbrev lvL(a:Nm->v_ 0)(E:i_ En):i_ (Nm×PV):=(E.filter λe=>e.lf.isSome).map λe=>(e.nm,.ref<|(a e.nm).headD 0)
abbrev wR(E:i_ En)(p:Nm):PV:=if p=root then .str "map" else match fnd (tE E) p with
 |some e=>.str e.kd
 |none=>.non
structure FS(P:Nat->Prop)(q:Nat)(h:PH)(l lt lm lf ll:Nat)(a:Nm->i_ Nat)(E:i_ En):Prop where
 fo:h[l]?=some (.ins "Folding" [("tree",.ref lt),("leaves",.ref ll)])
 ti:h[lt]?=some (.ins "Tree" [("made",.ref lm),("failed",.ref lf)])
 ls:h[lf]?=some (.lst [])
 md:aX h lm=some ((mdL E).map (oU id))
 lv:aX h ll=some ((lvL a E).map (oU id))
 le:∀e∈E,∀L,e.lf=some L->nW h (a e.nm) L/\LB q L
 ds:∀e∈E,∀e'∈E,e.lf.isSome=true->e'.lf.isSome=true->e.nm≠e'.nm->∀i∈a e.nm,i∉a e'.nm
 os:∀e∈E,e.lf.isSome=true->∀i∈a e.nm,¬ P i/\i∉[l,lt,lm,lf,ll]
 ne:lm≠ll
 nd:(E.map (·.nm)).Nodup
 ro:∀e∈E,e.nm≠root
 ln:E.length<=60
 lo:¬ P l/\¬ P lt/\¬ P lm/\¬ P lf/\¬ P ll
 pl:∀i,P i->∃o,h[i]?=some o
def E2(E)(p):fnd (mdL E) p=(fnd (tE E) p).map pS:=by
 induction E with
 |nil=>rfl
 |cons e E i=>
  change(if e.nm=p then a0 (pS e) else fnd (mdL E) p)=Option.map pS (if e.nm=p then a0 e else fnd (tE E) p)
  rw[i];split <;> rfl
variable{E:i_ En}
def E3(a)(c:(E.map (·.nm)).Nodup)(p):fnd (εa E) p=(fnd (tE E) p).bind λe=>if e.lf.isSome=true then a0 (.ref ((a e.nm).headD 0)) else a7:=by
 induction E with
 |nil=>rfl
 |cons e E q=>
  rw[xg,z7]at c;let q:=q c.2;let no:fnd (εa E) e.nm=a7/\fnd (tE E) e.nm=a7:=by
   have:fnd (tE E) e.nm=a7:=by
    cases q:fnd _ e.nm with
    |none=>rfl
    |some e'=>let⟨y,e,z⟩:=wo.mp<|B9 q;show absurd (wo.mpr ⟨y,e,(Prod.mk.inj z).1⟩) c.1
   constructor
   ·cases q:fnd _ e.nm with
    |none=>rfl
    |some e'=>let⟨y,e,z⟩:=wo.mp<|B9 q;show absurd (wo.mpr ⟨y,(Uk.mp e).1,(Prod.mk.inj z).1⟩) c.1
   ·show this
  change fnd (((e::E).filter λe=>e.lf.isSome).map λe=>(e.nm,PV.ref _)) p=Option.bind (if e.nm=p then a0 e else fnd (tE E) p) _
  by_cases c:e.lf.isSome=true
  ·rw[List.filter_cons_of_pos (p:=λe:En=>e.lf.isSome) c]
   change(if e.nm=p then a0 (PV.ref _) else fnd (εa E) p)=_
   by_cases z:e.nm=p
   ·rw[YS 0,YS 0];simp[c]
   ·rw[Y7 0,Y7 0,q]
  ·rw[List.filter_cons_of_neg (p:=λe:En=>e.lf.isSome) c]
   change fnd (εa E) p=_
   by_cases z:e.nm=p
   ·rw[YS 0,<-z,no.1];simp[c]
   ·rw[Y7 0,q]
variable{P:Nat->Prop}{a:Nm->v_ 0}{lf ll:Nat}
def FS.ft{q:Nat}{lt:Nat}(f:j3 E):aU "tree" (.ref l) h=.ok (.ref lt) h:=bI f.fo rfl
def FS.fl{q:Nat}{lt:Nat}(f:j3 E):aU "leaves" (.ref l) h=.ok (.ref ll) h:=bI f.fo rfl
def FS.fm{q:Nat}{lt:Nat}(f:j3 E):aU "made" (.ref lt) h=.ok (.ref lm) h:=bI f.ti rfl
def FS.hasM{q:Nat}{lt:Nat}(f:j3 E)(x:Nm):cX (pv x) (.ref lm) h=.ok (.bl (fnd (tE E) x).isSome) h:=by have:cX (pv x) _ h=.ok (.bl (aK ((mdL E).map _)<|pv x).isSome) h:=AO f.md rfl;rw[this,rT,Vx,E2,Vx]
variable{e:En}
def FS.atM{lt:Nat}(f:j3 E){x:Nm}(q:fnd (tE E) x=a0 e):vAt (.ref lm) (pv x) h=.ok (pS e) h:=MZ f.md rfl (by change aK _ (pv x)=_;rw[rT,E2,q];rfl)
def FS.hasL{q:Nat}{lt:Nat}(f:j3 E)(x:Nm):cX (pv x) (.ref ll) h=.ok (.bl ((fnd (tE E) x).bind (·.lf)).isSome) h:=by
 have:cX (pv x) _ h=.ok (.bl (aK ((εa E).map _)<|pv x).isSome) h:=AO f.lv rfl;rw[this,rT,Vx,E3 a f.nd];cases fnd _ x with
 |none=>rfl
 |some e=>
  change Rs.ok (PV.bl (if _=true then a0 (PV.ref _) else a7).isSome) h=.ok (PV.bl e.lf.isSome) h
  cases e.lf <;> rfl
def rU{x:Nm}(q:fnd (tE E) x=a0 e):e∈E/\e.nm=x:=by let⟨y,h,z⟩:=wo.mp<|B9 q;let⟨w,Z⟩:=Prod.mk.inj z;show⟨Z▸h,Z▸w⟩
def FS.atL{lt:Nat}(f:j3 E){x:Nm}(q:fnd (tE E) x=a0 e)(c:e.lf.isSome=true):vAt (.ref ll) (pv x) h=.ok (.ref<|(a x).headD 0) h:=MZ f.lv rfl (by change aK _ (pv x)=_;rw[rT,E3 a f.nd,q];simp[c,(rU q).2])
def F8{q:Nat}{lt:Nat}(f:j3 E)(p:Nm):cY [.ref lt,pv p] h=.ok (wR E p) h:=by
 let w:(cY [.ref lt,pv p] h).W λq y=>q=wR E p/\y=h:=by
  refine W_fn ?_;unfold iL wR;rw[aD];simp[Mc];by_cases e:p=root
  ·simp[e]
  ·simp[e];refine now ?_;let H:=f.hasM p;cases z:fnd _ p with
   |none=>rw[z]at H;simp[f.fm,H]
   |some r=>rw[z]at H;simp[f.fm,H,f.atM z,pS]
 let⟨q,y,e,rfl,rfl⟩:=gQ w;show e
def inT(h):cX (.str x) (.tup [.str "make",.str "move",.str "drop"]) h=.ok (.bl<|decide (x="make" \/ x="move" \/ x="drop")) h:=by
 rw[show([PV.str "make",.str "move",.str "drop"]:x_ 0)=(["make","move","drop"]:yp 0).map _ from rfl,Gr]
 simp
def inB(h):dR (.str x) (.tup [.str "back",.str "settle"]) h=.ok (.bl<|!decide (x="back" \/ x="settle")) h:=by
 rw[show([PV.str "back",.str "settle"]:x_ 0)=(["back","settle"]:yp 0).map _ from rfl,AM]
 simp
def CH{β:Type}{M:i_ (Nm×β)}{p:Nm}{r:β}(e:fnd M p=a7):Mf M p r=M++[(p,r)]:=by unfold Mf;rw[e];rfl
def jS(t:YK n=a0 kvs):∃o,h[n]?=a0 o:=let ⟨o,e,_⟩:=bV t;⟨o,e⟩
def B'(n:(E.map (·.nm)).Nodup):∀e∈E,∀y∈E,e.nm=y.nm->e=y:=by
 induction E with
 |nil=>intro e w;cases w
 |cons x r i=>
  rw[xg,z7]at n;intro e w y h z;rcases wu.mp w with rfl|v
  ·rcases wu.mp h with rfl|H
   ·rfl
   ·show(n.1<|wo.mpr ⟨y,H,z.symm⟩).elim
  ·rcases wu.mp h with rfl|H
   ·show(n.1<|wo.mpr ⟨e,v,z⟩).elim
   ·show i n.2 e v y H z
abbrev mkE(n:Nm)(k:Str):En:=⟨n,k,pv root,.str "k",lf0 k⟩
def JB{q:Nat}{lt:Nat}(f:j3 E){d:Dd}{k:Str}(A:d.ak=.make k)(n:fnd (tE E) d.nm=a7)(z:Q (.str "done") (h.set lm<|.dD<|(mdL<|E++[Xf k]).map<|oU id)):(nG [.ref lt,dP d] h).W Q:=by
 let D:dP d=.tup [Ye 0,YW 0,.tup [.str "make",.str k,pv root,.str "k"]]:=by unfold dP Dd.act;rw[A];rfl
 refine W_fn ?_;unfold nF;rw[aD,D];simp;refine now ?_;rw[aD];simp[mM,mMx "hear_make" f.ti rfl,qN];refine W_fn ?_;unfold fE;rw[aD];simp;refine now ?_;rw[aD];let K:cY [.ref lt,pv root] h=.ok (.str "map") h:=F8 f root;let t:gY [.ref lt,pv root,.str "k"] h=.ok (.bl true) h:=by
  let w:(gY [.ref lt,pv root,.str "k"] h).W λq H=>q=.bl true/\H=h:=by refine W_fn ?_;unfold lI;simp[mM,mMx "kind_of" f.ti rfl,fD,K,_L.known,yM]
  let⟨q,H,e,rfl,rfl⟩:=gQ w;show e
 simp[mM,mMx "takes" f.ti rfl,Cq,t];refine now ?_;rw[aD];let p:iZ _ (Ye 0) (.tup [.str k,pv root,.str "k"]) h=a0 (h.set lm<|.dD<|cL ((mdL E).map _) (Ye 0)<|id _):=AE f.md rfl (by rw[wd,mdL,wd];have:=f.ln;omega);rw[MY,CH (by rw[E2,n];rfl)]at p;have:mdL E++[(d.nm,PV.tup [.str k,pv root,.str "k"])]=mdL (E++[Xf k]):=by simp[mdL,pS,mkE]
 rw[this]at p;let s:∀h,lJ [.str "k",Ye 0] h=.ok _ h:=λh=>by
  let w:(lJ [.str "k",Ye 0] h).W λq H=>q=.str "k" /\ H=h:=by refine W_fn ?_;unfold pM;simp[_L.known,yM]
  let⟨q,H,e,rfl,rfl⟩:=gQ w;show e
 simp[s,f.fm];refine⟨_,p,now ?_⟩;simp[sJ,HM,BS];show z
def qS{x:Nm}(q:fnd (tE E) x=a7):∀e∈E,e.nm≠x:=λe H z=>by have:(fnd (tE E) x).isSome=true:=Mh.mpr<|wo.mpr ⟨(e.nm,e),wo.mpr ⟨e,H,rfl⟩,z⟩;rw[q]at this;cases this
variable{a':Nm->v_ 0}
def GA(H:∀e∈E,a' e.nm=a e.nm):lvL a' E=εa E:=by apply y1;intro e z;rw[H e (Uk.mp z).1]
def F9(e):εa (E++[e])=εa E++(if e.lf.isSome=true then[(e.nm,.ref<|(a e.nm).headD 0)] else[]):=by
 unfold lvL;rw[List.filter_append,zv];congr 1;by_cases c:e.lf.isSome=true
 ·rw[Xy 0,List.filter_cons_of_pos (p:=λe:En=>e.lf.isSome) c];rfl
 ·rw[YC 0,List.filter_cons_of_neg (p:=λe:En=>e.lf.isSome) c];rfl
def FS.add{q:Nat}{lt:Nat}(f:j3 E)(nw:fnd (tE E) e.nm=a7)(nr:e.nm≠root)(le:E.length<60)(k:∀(i) o,i≠lm->i≠ll->h[i]?=a0 o->h'[i]?=a0 o)(o:∀x∈E,a' x.nm=a x.nm)(md:aX h' lm=a0 ((mdL<|E++[e]).map<|oU id))(lv:aX h' ll=a0 ((lvL a'<|E++[e]).map<|oU id))(u:∀L,e.lf=a0 L->(nW h' (a' e.nm) L/\LB q L)/\∀i∈a' e.nm,h.length<=i):αc a' (E++[e]):=by
 let y:∀{i:Nat}{o},h[i]?=a0 o->i<h.length:=λe=>(X2 0).1;let np:∀{i:Nat},h.length<=i->¬ P i:=λv z=>by let⟨o,e⟩:=f.pl _ z;have:=y e;omega
 let⟨o1,t1⟩:=jS f.md;let⟨o2,t2⟩:=jS f.lv;let L:∀x∈E,x.lf.isSome=true->e.lf.isSome=true->∀i∈a' x.nm,i∉a' e.nm:=λx hx q q' i v z=>by let⟨w,q'⟩:=y4.mp q';let⟨L,q⟩:=y4.mp q;rw[o x hx]at v;let h1:=(f.le x hx L q).1.lt i v;let h2:=(u w q').2 i z;omega
 refine⟨A5 (eS f.md f.fo rfl) (eS f.lv f.fo rfl) f.fo,A5 (eS f.md f.ti rfl) (eS f.lv f.ti rfl) f.ti,A5 (eS f.md f.ls rfl) (eS f.lv f.ls rfl) f.ls,md,lv,λx hx L q=>?_,λx hx y w q1 q2 z=>?_,λx hx q=>?_,f.ne,?_,λx hx=>?_,by rw[wq];show le,f.lo,λi v=>let ⟨o,e⟩:=f.pl i v;⟨o,A5 (λz=>f.lo.2.2.1<|z▸v) (λz=>f.lo.2.2.2.2<|z▸v) e⟩⟩
 ·rcases wg.mp hx with hx|hx
  ·rw[o x hx];let⟨u,v⟩:=f.le x hx L q;refine⟨u.keep λi v o e=>?_,v⟩;have:=(f.os x hx (by rw[q];rfl) i v).2;simp at this;show k i o this.2.2.1 this.2.2.2.2 e
  ·rw[wx.mp hx]at q⊢;show(u L q).1
 ·rcases wg.mp hx with hx|hx <;> rcases wg.mp w with w|w
  ·rw[o x hx,o y w];show f.ds x hx y w q1 q2 z
  ·rw[wx.mp w]at q2⊢;show L x hx q1 q2
  ·rw[wx.mp hx]at q1⊢;show λi v hj=>L y w q2 q1 i hj v
  ·rw[wx.mp hx,wx.mp w]at z;show absurd rfl z
 ·rcases wg.mp hx with hx|hx
  ·rw[o x hx];show f.os x hx q
  ·rw[wx.mp hx]at q⊢;let⟨L,q⟩:=y4.mp q;intro i v;have:=(u L q).2 i v;let h1:=y f.fo;let h2:=y f.ti;let h3:=y t1;let h4:=y f.ls;let h5:=y t2;refine⟨np this,?_⟩;simp;omega
 ·rw[zv,Vg];show⟨f.nd,by simp,λx hx y w z=>by let⟨u,hu,rfl⟩:=wo.mp hx;rw[List.map_singleton,wx]at w;show qS nw u hu<|z.trans w⟩
 ·rcases wg.mp hx with hx|hx
  ·show f.ro x hx
  ·rw[wx.mp hx];show nr
abbrev Fr(P:Nat->Prop)(h h':PH):Prop:=(∀(i:Nat) o,P i->h[i]?=a0 o->h'[i]?=a0 o)/\h.length<=h'.length
abbrev Ts(k:Str):Prop:=k="count" \/ k="choice" \/ k="bag" \/ k="text" \/ k="map" \/ k="row"
def JC{q:Nat}{k:Str}(e:lf0 k=a0 L):LB q L:=by
 unfold lf0 at e
 repeat' split at e
 all_goals first|cases e;show trivial|(cases e;show zk _)|(cases e;show⟨zk _,wM,List.nodup_nil,zk _,wM⟩)|cases e
def JD{q:Nat}{lt:Nat}(f:j3 E){d:Dd}{k:Str}(ea:d.ak=.make k)(o:fnd (tE E) d.nm=a7)(nr:d.nm≠root)(hk:Ts k)(le:E.length<60)(kq:∀h' a',αc a' (E++[Xf k])->Fr P h h'->Q (.str "done") h'):(cZ [.ref l,dP d] h).W Q:=by
 refine W_fn ?_;unfold eR;rw[aD];simp[dP2];refine now ?_;rw[aD,cD];let i0:atI d.act 0=a0 (.str "make"):=by unfold Dd.act;rw[ea];show bZ (i:=0) rfl
 let i1:atI d.act 1=a0 (.str k):=by unfold Dd.act;rw[ea];show bZ (i:=1) rfl
 simp[i0,inT,mM,mMx "hear_tree" f.fo rfl,qP];refine W_fn ?_;unfold dJ;rw[aD];simp[mM,mMx "hear" f.ti rfl,ET,f.ft];refine JB f ea o ?_;let nl:lm≠ll:=f.ne;let⟨o0,vj⟩:=jS f.md;let q:=tT (kvs:=(mdL<|E++[Xf k]).map<|oU id)<|bF (o':=.dD _) vj;let x:∀(i:Nat) o,i≠lm->h[i]?=a0 o->(h.set lm<|.dD<|(mdL<|E++[Xf k]).map<|oU id)[i]?=a0 o:=λi o L e=>aQ e<|zj L;let l1:(h.set lm<|.dD<|(mdL<|E++[Xf k]).map<|oU id).length=h.length:=yo;generalize h.set lm (.dD _)=h1 at q x l1;let i:=XW (eS f.md f.fo rfl) f.fo;let z:=lX f.lv λo=>x _ o<|zj nl;refine now ?_;rw[aD];simp[dP2];refine now ?_;rw[aD,cD];simp[i0,i1,mM,mMx "add_leaf" i rfl,sU,dP0];refine W_fn ?_;unfold eF;rw[aD];simp;refine B8 hk (λe=>now ?_) λL L e x2 la l2=>now ?_
 ·simp;refine now ?_;simp;refine kq h1 a (f.add o nr le (λi o L _ e=>x i o L e) (λ_ _=>rfl) q ?_ λL q=>?_) ⟨λi o L e=>x i o (λz=>f.lo.2.2.1<|z▸L) e,Nat.le_of_eq l1.symm⟩
  ·rw[F9,show(Xf k).lf=lf0 k from rfl,e];simpa using z
  ·rw[show(Xf k).lf=lf0 k from rfl,e]at q;cases q
 ·let⟨cl,la,hd,low⟩:=la;let qf:=lX z λo=>x2 _ o;let ux:aU "leaves" (.ref l) L=.ok (.ref ll) L:=bI (x2 _ _ i) rfl;let hp:iZ (.ref ll) (Ye 0) (.ref h1.length) L=a0 (L.set ll<|.dD<|cL ((εa E).map<|oU id) (Ye 0)<|id<|.ref h1.length):=AE qf rfl (by rw[wd,lvL,wd];have:=UZ (λe:En=>e.lf.isSome) E;omega);rw[MY,CH (by rw[E3 a f.nd,o];rfl)]at hp;let nn:=qS o;let ud:εa E++[(d.nm,PV.ref h1.length)]=lvL (λx=>if x=d.nm then cl else a x) (E++[Xf k]):=by
   rw[F9,GA (a':=λx=>if x=d.nm then cl else a x) (a:=a) λe he=>if_neg<|nn e he,if_pos (show(Xf k).lf.isSome=true by rw[show(Xf k).lf=lf0 k from rfl,e];rfl),<-hd]
   simp[mkE]
  rw[ud]at hp;simp[ux];refine⟨_,hp,?_⟩;let⟨o2,i9⟩:=jS qf;let⟨o3,ur⟩:=jS z;let b3:=(vz.mp ur).1;refine now ?_;simp;let kk:∀(i:Nat) o,i≠lm->i≠ll->h[i]?=a0 o->(L.set ll<|.dD<|(lvL (λx=>if x=d.nm then cl else a x) (E++[Xf k])).map (oU id))[i]?=a0 o:=λi o L hj e=>aQ (x2 _ _<|x i o L e)<|zj hj;refine kq _ _ (f.add o nr le kk (λe he=>if_neg<|nn e he) (lX (lX q λo=>x2 _ o) λo e=>aQ e<|zj nl) (tT<|bF i9) λL' z=>?_) ⟨λi o L e=>kk i o (λz=>f.lo.2.2.1<|z▸L) (λz=>f.lo.2.2.2.2<|z▸L) e,by rw[yo];omega⟩;rw[show(Xf k).lf=lf0 k from rfl,e]at z
  cases z
  rw[show(if(Xf k).nm=d.nm then cl else a (Xf k).nm)=cl from if_pos rfl]
  show⟨⟨la.keep λi L o e=>aQ e (by have:=low i L;omega),JC e⟩,λi L=>by rw[<-l1];show low i L⟩
abbrev kdL:Lf->Str
 |.cnt _=>"count"
 |.cho _=>"choice"
 |.bag _=>"bag"
 |.txt _ _=>"text"
abbrev wdA:Ak->Str
 |.make _=>"make"
 |.num w _=>w
 |.wrt _ _ _=>"write"
 |.ct _=>"cut"
 |.mrk w _ _ _=>w
abbrev jT:Ak->Str
 |.make _=>"make"
 |.num w _=>if w="add" then "count" else if w="choose" then "choice" else "bag"
 |_=>"text"
abbrev gK:Ak->Prop
 |.make _=>False
 |.num w _=>w="add" \/ w="choose" \/ w="put" \/ w="take"
 |.wrt u _ z=>u.length<=900/\1<=z.length/\z.length<=3/\Asc z
 |.ct g=>g.length<=1000
 |.mrk w _ _ _=>w="mark" \/ w="clear"
variable{A:Ak}
def JE(v:gK A)(h):lK [.str<|wdA A] h=.ok (.str<|jT A) h:=by
 let wh:(lK [.str<|wdA A] h).W λq n=>q=.str (jT A)/\n=h:=by
  refine W_fn ?_;unfold pN;let n:¬ (xm "add")="choose" /\ ¬ (xm "add")="put" /\ ¬ (xm "choose")="put" /\ ¬ (xm "add")="take" /\ ¬ (xm "choose")="take" /\ ¬ (xm "put")="take" := by decide +kernel
  let n1:¬ (xm "choose")="add" /\ ¬ (xm "put")="add" /\ ¬ (xm "take")="add" /\ ¬ (xm "put")="choose" /\ ¬ (xm "take")="choose" := by decide +kernel
  let E:oX [(("add" : Str),("count" : Str)),("choose","choice"),("put","bag"),("take","bag"),("write","text"),("cut","text"),("mark","text"),("clear","text")] "write" = a0 "text" /\ oX [(("add" : Str),("count" : Str)),("choose","choice"),("put","bag"),("take","bag"),("write","text"),("cut","text"),("mark","text"),("clear","text")] "cut" = a0 "text" /\ oX [(("add" : Str),("count" : Str)),("choose","choice"),("put","bag"),("take","bag"),("write","text"),("cut","text"),("mark","text"),("clear","text")] "mark" = a0 "text" /\ oX [(("add" : Str),("count" : Str)),("choose","choice"),("put","bag"),("take","bag"),("write","text"),("cut","text"),("mark","text"),("clear","text")] "clear" = a0 "text" := by decide +kernel
  cases A with
  |make=>exact v.elim
  |num w v=>rcases v with rfl|rfl|rfl|rfl <;> simp[vGd,wdA,jT,oX,gdV,n,n1]
  |wrt=>simp[vGd,wdA,jT,gdV,E]
  |ct=>simp[vGd,wdA,jT,gdV,E]
  |mrk w=>rcases v with rfl|rfl <;> simp[vGd,wdA,jT,gdV,E]
 let⟨q,n,e,rfl,rfl⟩:=gQ wh;show e
def RB(o:gK A):¬ (wdA A="make" \/ wdA A="move" \/ wdA A="drop")/\¬ (wdA A="back" \/ wdA A="settle"):=by
 let n:∀z∈([("add" : Str),"choose","put","take","write","cut","mark","clear"]:yp 0),¬ (z="make" \/ z="move" \/ z="drop")/\¬ (z="back" \/ z="settle"):=by decide +kernel
 refine n _ ?_;cases A with
 |make=>exact o.elim
 |num w v=>rcases o with rfl|rfl|rfl|rfl <;> simp[wdA]
 |wrt=>simp[wdA]
 |ct=>simp[wdA]
 |mrk w=>rcases o with rfl|rfl <;> simp[wdA]
def JF(o:gK A):jT A∈([("count" : Str),"choice","bag","text"]:yp 0):=by
 cases A with
 |make=>exact o.elim
 |num w v=>
  simp only[jT];split
  ·simp
  ·split <;> simp
 |wrt=>simp[jT]
 |ct=>simp[jT]
 |mrk=>simp[jT]
def JG{d:Dd}(o:γO 0)(e:kdL L=jT d.ak):Js d L:=by
 let n:(∀z∈([("add" : Str),"choose","put","take"]:yp 0),(if z="add" then("count" : Str) else if z="choose" then "choice" else "bag")≠"text")/\("count" : Str)≠"text" /\ ("choice" : Str)≠"text" /\ ("bag" : Str)≠"text" /\ ("count" : Str)≠"choice" /\ ("count" : Str)≠"bag" /\ ("choice" : Str)≠"bag" := by decide +kernel
 cases a:d.ak with
 |make=>rw[a]at o;show o.elim
 |num w v=>
  rw[a]at o e;let t:=n.1 w (by rcases o with rfl|rfl|rfl|rfl <;> simp);let e:kdL L=(if w="add" then("count" : Str) else if w="choose" then "choice" else "bag"):=e;cases L with
  |cnt i=>
   refine⟨v,?_⟩;by_cases z:w="add"
   ·rw[a,z]
   ·rw[Y7 0]at e;let e:=e;split at e
    ·show Yk n.2.2.2.2.1
    ·show Yk n.2.2.2.2.2.1
  |cho r=>
   refine⟨v,?_⟩;by_cases z:w="add"
   ·rw[YS 0]at e;show αd n.2.2.2.2.1
   ·rw[Y7 0]at e;by_cases Z:w="choose"
    ·rw[a,Z]
    ·rw[if_neg Z]at e;show Yk n.2.2.2.2.2.2
  |bag r=>
   refine⟨w,v,a,?_⟩;rcases o with z|z|z
   ·rw[YS 0]at e;show αd n.2.2.2.2.2.1
   ·by_cases y:w="add"
    ·rw[if_pos y]at e;show αd n.2.2.2.2.2.1
    ·rw[if_neg y,YS 0]at e;show αd n.2.2.2.2.2.2
   ·show z
  |txt R M=>exact αd t
 |wrt u s z=>
  rw[a]at o e;cases L with
  |cnt i=>exact Yk n.2.1
  |cho i=>exact Yk n.2.2.1
  |bag i=>exact Yk n.2.2.2.1
  |txt R M=>exact .inl ⟨u,s,z,a,o⟩
 |ct g=>
  rw[a]at o e;cases L with
  |cnt i=>exact Yk n.2.1
  |cho i=>exact Yk n.2.2.1
  |bag i=>exact Yk n.2.2.2.1
  |txt R M=>exact .inr<|.inl ⟨g,a,o⟩
 |mrk w f l z=>
  rw[a]at o e;cases L with
  |cnt i=>exact Yk n.2.1
  |cho i=>exact Yk n.2.2.1
  |bag i=>exact Yk n.2.2.2.1
  |txt R M=>exact .inr<|.inr ⟨w,f,l,z,a,o⟩
def N1{d:Dd}:kdL (fK d L)=kdL L:=by
 cases L with
 |cnt i=>simp[fK];split <;> rfl
 |cho r=>simp[fK];split <;> rfl
 |bag r=>simp[fK];split <;> (try split) <;> rfl
 |txt R M=>simp[fK];split <;> (try split) <;> rfl
def LB.up{q:Nat}(b:LB q L):LB (q+1) L:=by
 cases L with
 |cnt i=>exact trivial
 |cho r=>exact Vz b
 |bag r=>exact Vz b
 |txt R M=>exact⟨by have:=b.1;omega,b.2.1,b.2.2.1,Vz b.2.2.2.1,λm h=>Vz (b.2.2.2.2 m h)⟩
abbrev KM(E:i_ En):Prop:=∀e∈E,∃L,e.lf=a0 L/\kdL L=e.kd
abbrev upD(d:Dd)(e:En):En:=if e.nm=d.th/\e.kd=jT d.ak then { e with lf:=e.lf.map (fK d)} else e
abbrev upE(E:i_ En)(d:Dd):i_ En:=E.map<|upD d
def gO{d:Dd}:(upD d e).nm=e.nm/\(upD d e).kd=e.kd/\(upD d e).hd=e.hd/\(upD d e).sp=e.sp/\(upD d e).lf.isSome=e.lf.isSome:=by
 unfold upD;split
 ·show⟨rfl,rfl,rfl,rfl,Vx⟩
 ·show⟨rfl,rfl,rfl,rfl,rfl⟩
def P7{d:Dd}:pS (upD d e)=pS e:=by unfold pS;rw[gO.2.1,gO.2.2.1,gO.2.2.2.1]
def KM.up{d:Dd}(k:KM E):KM (upE E d):=by
 intro y H;let⟨e,h,rfl⟩:=wo.mp H;let⟨L,z,x⟩:=k e h;unfold upD;split
 ·show⟨fK d L,by simp[z],N1.trans x⟩
 ·show⟨L,z,x⟩
def RC{d:Dd}:mdL (upE E d)=mdL E:=by
 unfold mdL upE;rw[yg];apply y1;intro y _
 change((upD d y).nm,pS _)=(y.nm,pS y)
 rw[gO.1,P7]
def RD{d:Dd}(ha:∀e∈E,(a' e.nm).headD 0=(a e.nm).headD 0):lvL a' (upE E d)=εa E:=by
 unfold lvL upE;rw[List.filter_map,yg];have:(λe:En=>e.lf.isSome)∘upD d=λe=>e.lf.isSome:=by funext e;show gO.2.2.2.2
 rw[this];apply y1;intro y hy
 change((upD d y).nm,PV.ref _)=_
 rw[gO.1,ha y (Uk.mp hy).1]
def RF{d:Dd}(h:∀e∈E,e.nm=d.th->e.kd≠jT d.ak):upE E d=E:=by have:upE E d=E.map id:=y1 λe H=>if_neg λz=>h e H z.1 z.2;rw[this,List.map_id]
def FS.more{q:Nat}{lt:Nat}(f:j3 E):FS P (q+1) h l lt lm lf ll a E:=⟨f.fo,f.ti,f.ls,f.md,f.lv,λe H L z=>⟨(δp z).1,(δp z).2.up⟩,f.ds,f.os,f.ne,f.nd,f.ro,f.ln,f.lo,f.pl⟩
open H in
def FS.upL{q:Nat}{lt:Nat}(f:j3 E){d:Dd}(he:e∈E)(ex:e.nm=d.th)(ek:e.kd=jT d.ak)(eL:e.lf=a0 L)(w:Js d L)(H:Hrd h (a d.th) (fK d L) h'):(∃a',FS P (q+1) h' l lt lm lf ll a'<|upE E d)/\Fr P h h':=by
 let⟨cl,n,k2,k3,k4,k5⟩:=H;let os:=λi x=>f.os e he (by rw[eL];rfl) i<|ex▸x;let no:=λi x z=>(os i z).2 x;let zl:∀{i:Nat}{o},h[i]?=a0 o->i<h.length:=λe=>(X2 0).1;let⟨o1,t1⟩:=jS f.md;let⟨o2,t2⟩:=jS f.lv;let np:∀{i:Nat},h.length<=i->¬ P i:=λx z=>by let⟨o,e⟩:=f.pl _ z;have:=zl e;omega
 refine⟨⟨λy=>if y=d.th then cl else a y,n _ _ (no _<|by simp) f.fo,n _ _ (no _<|by simp) f.ti,n _ _ (no _<|by simp) f.ls,?_,?_,?_,?_,?_,f.ne,?_,?_,?_,f.lo,λi x=>let ⟨o,e⟩:=f.pl i x;⟨o,n _ _ (λz=>(os i z).1 x) e⟩⟩,λi o x e=>n i o (λz=>(os i z).1 x) e,k5⟩
 ·rw[RC];show lX f.md λo e=>n _ _ (no _<|by simp) e
 ·rw[RD]
  ·show lX f.lv λo e=>n _ _ (no _<|by simp) e
  ·intro y k;split
   ·rename_i z;rw[z];cases cl <;> cases h2:a d.th <;> simp[h2]at k4⊢;show k4
   ·rfl
 ·intro y k _L e2;let⟨u,y,rfl⟩:=wo.mp k;rw[gO.1];by_cases z:u.nm=d.th
  ·have:=B' f.nd u y e he<|z.trans ex.symm;subst this;unfold upD at e2;rw[if_pos ⟨z,ek⟩,eL]at e2;cases e2
   rw[YS 0];show⟨k2,(f.le _ y L eL).2.op w⟩
  ·unfold upD at e2;rw[if_neg λq=>z q.1]at e2;rw[Y7 0];let⟨x1,x2⟩:=f.le u y _L e2;show⟨x1.keep λi x o e3=>n i o (λq=>f.ds u y e he (by rw[e2];rfl) (by rw[eL];rfl) (by rw[ex];show z) i x (by rw[ex];show q)) e3,x2.up⟩
 ·intro y k y' j7 q1 q2 n i x q;let⟨u,y,rfl⟩:=wo.mp k;let⟨u',eh,rfl⟩:=wo.mp j7;rw[gO.2.2.2.2]at q1 q2;rw[gO.1]at x q n;rw[gO.1]at n;let⟨L1,e1⟩:=y4.mp q1;let⟨_L,e2⟩:=y4.mp q2;let o:=f.ds u y u' eh q1 q2 n i;by_cases z:u.nm=d.th
  ·rw[YS 0]at x;rw[if_neg λq=>n<|z.trans q.symm]at q;rcases k3 i x with k|k
   ·show o (z▸k) q
   ·have:=((f.le u' eh _L e2).1.lt) i q;omega
  ·rw[Y7 0]at x;by_cases z2:u'.nm=d.th
   ·rw[if_pos z2]at q;rcases k3 i q with k|k
    ·show o x (z2▸k)
    ·have:=((f.le u y L1 e1).1.lt) i x;omega
   ·rw[if_neg z2]at q;show o x q
 ·intro y k q i x;let⟨u,y,rfl⟩:=wo.mp k;rw[gO.2.2.2.2]at q;rw[gO.1]at x;by_cases z:u.nm=d.th
  ·rw[YS 0]at x;rcases k3 i x with k|k
   ·show os i k
   ·let h1:=zl f.fo;let h2:=zl f.ti;let h3:=zl t1;let h4:=zl f.ls;let h5:=zl t2;refine⟨np k,?_⟩;simp;omega
  ·rw[Y7 0]at x;show f.os u y q i x
 ·unfold upE;rw[yg,show(λx:En=>x.nm)∘upD d=λx=>x.nm from funext λx=>gO.1];show f.nd
 ·intro y k;let⟨u,y,rfl⟩:=wo.mp k;rw[gO.1];show f.ro u y
 ·unfold upE;rw[wd];show f.ln
def JH{q:Nat}{lt:Nat}(f:j3 E)(M:KM E)(c:q<=60){d:Dd}(o:γO 0)(K:∀r x A,FS P (q+1) x l lt lm lf ll A (upE E d)->Fr P h x->Q r x):(cZ [.ref l,dP d] h).W Q:=by
 let⟨N,b⟩:=RB o;let t:atI d.act 0=a0 (.str<|wdA d.ak)/\atI d.act 1=a0 (βN 0):=by
  unfold Dd.act;cases e:d.ak with
  |make=>rw[e]at o;show o.elim
  |num=>exact⟨bZ rfl,bZ rfl⟩
  |wrt=>exact⟨bZ rfl,bZ rfl⟩
  |ct=>exact⟨bZ rfl,bZ rfl⟩
  |mrk=>exact⟨bZ rfl,bZ rfl⟩
 let⟨i,I⟩:=t;refine W_fn ?_;unfold eR;rw[aD];simp[dP2];refine now ?_;rw[aD];simp[i,inT,N];refine now ?_;rw[aD];simp[i,inB,b];rw[aD];let s:(∀e∈E,e.nm=d.th->e.kd≠jT d.ak)->Q (.str "idle") h:=λO=>K _ h a (by rw[RF O];show f.more) ⟨λ_ _ _ e=>e,wj _⟩;let k:=F8 f d.th;cases F:fnd _ d.th with
 |none=>
  let Z:jJ (wR E d.th) (.str<|jT d.ak) h=.ok (.bl true) h:=by
   unfold wR;rw[F];split
   ·let n:∀z∈([("count" : Str),"choice","bag","text"]:yp 0),¬ ("map" : Str)=z:=by decide +kernel
    rw[IW,decide_eq_false<|n _<|JF o];rfl
   ·show IX
  simp[i,I,mM,mMx "kind_of" f.ti rfl,fD,f.ft,k,JE o,Z];show s λe y z=>β9<|qS F e y
 |some e=>
  let⟨y,X⟩:=rU F;let D:wR E d.th=.str e.kd:=by unfold wR;rw[if_neg<|λz=>f.ro e y<|X.trans z,F]
  rw[D]at k;let⟨L,v,j⟩:=M e y;by_cases z:e.kd=jT d.ak
  ·simp[i,I,mM,mMx "kind_of" f.ti rfl,fD,f.ft,k,JE o,z];refine now ?_;simp[I,f.fl,(f.atL F (by rw[v];rfl)),mM,-U0];let⟨p,Y⟩:=f.le e y L v;rw[X]at p;let w:=JG o<|j.trans z;refine zP p Y c w ?_ λx H=>?_
   ·simp
   ·let⟨⟨A,g⟩,R⟩:=f.upL y X z v w H;refine now ?_;simp;show K _ x A g R
  ·simp[i,I,mM,mMx "kind_of" f.ti rfl,fD,f.ft,k,JE o,z];show s λm u V=>by rw[B' f.nd m u e y<|V.trans X.symm];show z
def P8{f:Str}{fs:i_ (Str×PV)}{a:Nat}{r:Ev}{E:FE}(g:h[a]?=a0 (.ins cn fs))(l:fs.length<1000)(k:∀H,(∀(i) o,i≠a->h[i]?=a0 o->H[i]?=a0 o)->H[a]?=a0 (.ins cn<|mH f (.ref h.length) fs)->H[h.length]?=a0 (.lst [])->H.length=h.length+1->E.nx (a0 (.ref a)::r) H):(cN f (mV 0) (cO aC) (a0 (.ref a)::r) h).W E:=by let A:=(vz.mp g).1;simp;refine⟨_,cW (ZF g) l,k _ (λi o I e=>aQ (ZF e)<|zj I) (bF<|Ext.app _ _ _ _ g) (aQ aE ⋯)<|by simp⟩
def JI(k:∀H m f,tx H->H[h.length]?=a0 (.ins "Tree" [("made",.ref m),("failed",.ref f)])->h.length<H.length->Q (.ref h.length) H):(gL "Tree" 0 gG aC δ h).W Q:=by refine nX rfl rfl ?_;refine W_fn ?_;unfold fZ;rw[aD];refine B7 aE (by simp) λx K g d l=>now ?_;refine P8 g (by simp[mH]) λz y G D L=>⟨rfl,?_⟩;refine k z _ _ (λi o e=>?_) G (by rw[L,l];simp;omega);let I:=(X2 0).1;show y _ _ ⋯ (K _ _ ⋯ (ZF e))
variable{r:Nat}
def JJ{lt lo:Nat}{lm lf:PV}(g:h[lt]?=a0 (.ins "Tree" [("made",lm),("failed",lf)]))(R:h[r]?=a0 (.lst []))(l:h[lo]?=a0 (.lst []))(k:∀y lm lf,(∀(i) o,i≠lt->h[i]?=a0 o->y[i]?=a0 o)->y[lt]?=a0 (.ins "Tree" [("made",.ref lm),("failed",.ref lf)])->aX y lm=a0 []->y[lf]?=a0 (.lst [])->h.length<=lm->h.length<=lf->h.length<=y.length->Q .non y):(nE [.ref lt,.ref r,.ref lo] h).W Q:=by
 let n:r≠lt:=λz=>by rw[z,g]at R;cases R
 let N:lo≠lt:=λz=>by rw[z,g]at l;cases l
 let b:=(vz.mp g).1;refine W_fn ?_;unfold nD;rw[aD];refine B7 g (by simp) λH K w D u=>now ?_;rw[aD];refine Jy (by simp) (K _ _ n R)<|now ?_;let L:fC [.ref lo] H=.ok (.ref _) _:=iI<|K _ _ N l;let G:=Ext.app H [MO.lst []] _ _ w;let d:=Ext.app H [MO.lst []] _ _ D;let f:(H++[MO.lst []])[H.length]?=a0 _:=aE;let x:=Ext.app H [MO.lst []];let v:(H++[MO.lst []]).length=H.length+1:=by simp
 generalize H++[MO.lst []]=h2 at L G d f x v;simp[L];refine⟨_,cW G<|by simp[mH],?_⟩;show A5 _ (λi o I e=>aQ (XW<|K _ _ I e)<|zj I) (bF G) (tS<|aQ d ⋯) (aQ f ⋯) (wj _) ⋯ (by rw[yo];omega)
def JK{lo:Nat}(gr:h[r]?=a0 (.lst []))(gl:h[lo]?=a0 (.lst []))(em:Xi h=.ok [.tup [.ref r,.ref lo]] h)(k:∀h' l lt lm lf ll,Fr (λi=>i<h.length) h h'->FS (λi=>i<h.length) 0 h' l lt lm lf ll (λ_=>[]) []->Q (.ref l) h'):(gL "Folding" 1 eE ms δ h).W Q:=by
 refine nX em rfl ?_;refine W_fn ?_;unfold eC;let br:=(vz.mp gr).1;let bl:=(vz.mp gl).1;rw[aD];let g0:(h++[MO.ins "Folding" []])[h.length]?=a0 (.ins "Folding" []):=aE;let x0:=YX [MO.ins "Folding" []];let l0:(h++[MO.ins "Folding" []]).length=h.length+1:=by simp
 generalize h++[MO.ins "Folding" []]=h0 at g0 x0 l0;simp;refine now ?_;rw[aD,DE];refine JI λh1 lm0 lf0 x1 g1 l1=>?_;simp;refine⟨_,cW (x1 _ _ g0)<|by simp,now ?_⟩;let k1:∀(i:Nat) o,i≠h.length->h1[i]?=a0 o->(γP<|MO.ins "Folding"<|mH "tree" (.ref h0.length) [])[i]?=a0 o:=λi o hi e=>aQ e<|zj hi;let f1:(γP<|MO.ins "Folding"<|mH "tree" (.ref h0.length) [])[h.length]?=a0 (.ins "Folding" [("tree",.ref h0.length)]):=bF<|x1 _ _ g0;let uj:(γP<|MO.ins "Folding"<|mH "tree" (.ref h0.length) []).length=h1.length:=yo;generalize h1.set h.length (MO.ins "Folding"<|mH "tree" (.ref h0.length) [])=h2 at k1 f1 uj;let g2:=k1 _ _ ⋯ g1;let p8:=k1 _ _ ⋯ (x1 _ _<|x0 _ _ gr);let r4:=k1 _ _ ⋯ (x1 _ _<|x0 _ _ gl);rw[aD];let hc:=eO (js:=[a7]) (tg:=gN 0) (tst:=dQ) (elt:=mSl (mV 0) mG<|mP<|d3 4) (m:=mV 2) (δ:=[a0 (.ref h.length),a0<|.tup [.ref r,.ref lo],a0 (.ref r),a0 (.ref lo),a7,a7,a7,a7,a7]) (h:=h2) (h1:=h2) (n:=r) (ys:=([]:x_ 0)) (emb:=id)
  (λ_=>a7) (by simp) p8 (by simp) (λp hp=>by cases hp)
 let ft:aU "tree" (.ref h.length) h2=.ok (.ref h0.length) h2:=bI f1 rfl;let x3:=Ext.app h2 [MO.lst []];let g3:(h2++[MO.lst []])[h2.length]?=a0 (.lst []):=aE;let l3:(h2++[MO.lst []]).length=h2.length+1:=by simp
 rw[List.filterMap_nil]at hc;generalize h2++[MO.lst []]=h3 at hc x3 g3 l3;simp[mM,ft,mMx "fill" g2 rfl,ES,hc];refine JJ (x3 _ _ g2) g3 (x3 _ _ r4) λh4 lm lf k4 g4 m4 f4 b1 b2 l4=>now ?_;rw[aD];let qr:=k4 _ _ ⋯ (x3 _ _ f1);refine B7 (f:="leaves") qr (by simp) λh5 k5 g5 d5 l5=>now ?_;let e0:=(vz.mp f4).1;refine Jy (n:=r) (h1:=h5) (by simp) (k5 _ _ ⋯ (k4 _ _ ⋯ (x3 _ _ p8))) ?_;let nm:lm≠h.length:=⋯;refine k h5 h.length h0.length lm lf h4.length ⟨λi o hi e=>k5 _ _ ⋯ (k4 _ _ ⋯ (x3 _ _<|k1 _ _ ⋯ (x1 _ _<|x0 _ _ e))),⋯⟩ ⟨g5,k5 _ _ ⋯ g4,k5 _ _ ⋯ f4,lX m4 λo e=>k5 _ _ nm e,tS d5,wM,wM,wM,?_,List.nodup_nil,wM,zk _,⋯,λi hi=>?_⟩
 ·let⟨o,e⟩:=jS m4;have:=(X2 0).1;omega
 ·let hi:i<h.length:=hi;show⟨_,k5 _ _ ⋯ (k4 _ _ ⋯ (x3 _ _<|k1 _ _ ⋯ (x1 _ _<|x0 _ _<|Uc hi)))⟩
variable{elt:Me}{g:PH->Bool}{js:i_ (YJ 0)}{mi:Mi}
def Fb{xs:x_ 0}(P:Nat->PV->PH->Prop)(e:mi δ h=.ok ⟨xs,g⟩ h1)(n:∀h,αL h->g h=true)(hz:xs.length<=16777216)(m:∀i v h H,(∀(j) o,j≠h1.length->h[j]?=a0 o->H[j]?=a0 o)->P i v h->P i v H)(t:∀i x,xs[i]?=a0 x->∃y,tg x (αV 0)=a0 y/\∀h,αL h->h1.length<h.length->∀Q,(∀v H,tx H->P i v H->Q v H)->(elt y h).W Q)(k:∀H(s),αL H->s.length=xs.length->H[h1.length]?=a0 (.lst s)->(∀i v,s[i]?=a0 v->P i v H)->Q (.ref h1.length) H):(γf tg dQ elt δ h).W Q:=by
 unfold bB;rw[e];refine Aw (λi H=>αL H/\h1.length<H.length/\∃s,s.length=i/\H[h1.length]?=a0 (.lst s)/\∀i v,s[i]?=a0 v->P i v H) xs 0 _ ⟨n7 _,by simp,[],rfl,by simp,λi v V=>by simp at V⟩ (λi x H _ q I=>?_) (λH I=>?_)
 ·let⟨X,L,s,l,G,O⟩:=I;let q:xs[i]?=a0 x:=by simpa using q
  let f:=(vz.mp q).1;let⟨y,T,S⟩:=t i x q;refine⟨n _ X,y,T,?_⟩;let Y:dQ y H=.ok true H:=rfl;rw[Y,BS];refine S H X L _ λv p r d=>?_;refine⟨_,r _ _ G,⋯,(X.trans r).setN<|wj _,by rw[yo];show xa L r.len,s++[v],by simp[l],bF<|r _ _ G,λj w u=>m _ _ _ _ (λj o J e=>aQ e<|zj J) ?_⟩;rcases Nat.lt_trichotomy j _ with z|z|z
  ·rw[xc z]at u;show m _ _ _ _ (λj o _ e=>r _ _ e)<|O j w u
  ·rw[z,wz<|wj _,Nat.sub_self]at u;cases u
   rw[z,l];show d
  ·have:=(vz.mp u).1;simp at this;omega
 ·let⟨X,L,s,l,G,O⟩:=I;rw[V4]at l;show⟨n _ X,k _ s X l G O⟩
abbrev RG(m:MkR)(y:Nat):PV:=.tup [pv m.nm,pl m.f,pl m.l,.str m.w,.ref y]
abbrev MrR(n:Nat)(h:PH)(M:i_ MkR)(vs:x_ 0):Prop:=vs.length=M.length/\∀(i:Nat) v,vs[i]?=a0 v->∃m y,M[i]?=a0 m/\v=RG m y/\n<y/\h[y]?=a0 (.lst<|m.ho.map spP)
abbrev tJ(n:Nat)(h:PH):Lf->PV->Prop
 |.cnt i,v=>v=.int i
 |.cho r,v=>∃s,v=.ref s/\n<s/\h[s]?=a0 (.lst<|r.map rw2)
 |.bag r,v=>∃s,v=.ref s/\n<s/\h[s]?=a0 (.lst<|r.map rw2)
 |.txt R M,v=>∃s t os vs,v=.tup [.ref s,.ref t]/\n<s/\n<t/\h[s]?=a0 (.lst<|os.map rwP)/\os.Perm R/\SRt os/\h[t]?=a0 (.lst vs)/\MrR n h M vs
variable{n':Nat}{vs:x_ 0}
def MrR.mono(N:n'<=n)(k:∀(j) o,n<j->h[j]?=a0 o->h'[j]?=a0 o)(c:MrR n h M vs):MrR n' h' M vs:=⟨c.1,λi v H=>let ⟨m,y,a,b,l,g⟩:=c.2 i v H;⟨m,y,a,b,⋯,A5 l g⟩⟩
def tJ.mono{v:PV}(H:n'<=n)(k:∀(j) o,n<j->h[j]?=a0 o->h'[j]?=a0 o)(c:tJ n h L v):tJ n' h' L v:=by
 cases L with
 |cnt i=>exact c
 |cho r=>let⟨s,C,z,y⟩:=c;show⟨s,C,⋯,A5 z y⟩
 |bag r=>let⟨s,C,z,y⟩:=c;show⟨s,C,⋯,A5 z y⟩
 |txt=>let⟨s,t,O,V,C,z,y,x,w,u,q,p⟩:=c;show⟨s,t,O,V,C,⋯,⋯,A5 z x,w,u,A5 y q,p.mono H k⟩
def JL(t:gZ h m s M)(T:M.length<=1000)(R:∀x∈M,x.ho.length<=1000)(N:n<h.length)(k:∀r V z,tx z->n<r->z[r]?=a0 (.lst V)->MrR n z M V->Q (.ref r) z):(lS [.ref m] h).W Q:=by
 refine W_fn ?_;unfold lQ;rw[sJ];refine Fb (g:=tG s _) (λi v Z=>∃m y,M[i]?=a0 m/\v=RG m y/\h.length<y/\Z[y]?=a0 (.lst<|m.ho.map spP)) (vD (by simp[t.fm<|Ext.refl _]) t.2) (vE t.2) (by rw[wd];omega) (λi v A B p ⟨m,y,a,b,c,e⟩=>⟨m,y,a,b,c,p _ _ ⋯ e⟩) (λi x X=>?_) λu V d o G O=>?_
 ·rw[xf]at X;let⟨y,Y,rfl⟩:=xv.mp X;refine⟨[a0<|mkV y],by simp[dI],λH P L U K=>?_⟩;let S:vSl (mkV y) a7 (a0 4) H=.ok (.tup [pv y.nm,pl y.f,pl y.l,.str y.w]) H:=rfl;let I:vIx (mkV y) (.int 4) H=.ok (.tup<|y.ho.map spP) H:=by unfold mkV;simp
  let j:fC [.tup<|y.ho.map spP] H=.ok (.ref _) (H++[.lst _]):=rfl;simp[S,I,j];show K _ _ (n7 _) ⟨y,H.length,Y,rfl,L,aE⟩
 ·show k _ V u d N G ⟨by rw[o,wd],λi v q=>let ⟨m,y,a,b,c,e⟩:=O i v q;⟨m,y,a,b,⋯,e⟩⟩
def JM{q:Nat}(N:n<h.length)(A:γN L)(o:LB q L)(E:q<=60)(e:Xi h=.ok [] h)(k:∀v H,tx H->tJ n H L v->Q v H):(mMe "content" 0 bW ms δ (.ref<|cl.headD 0) h).W Q:=by
 let C:¬ (xm "Choice")="Count" /\ ¬ (xm "Bag")="Count" /\ ¬ (xm "Bag")="Choice" /\ ¬ (xm "Text")="Count" /\ ¬ (xm "Text")="Choice" /\ ¬ (xm "Text")="Bag" := by decide +kernel
 let d:¬ (xm "Signs")="Marks" := by decide +kernel
 cases L with
 |cnt i=>let⟨c,rfl,a⟩:=A;simp[mMx "content" a rfl,bW,e];refine W_fn ?_;unfold gJ;let f:aU "total" (.ref c) h=.ok _ h:=bI a rfl;simp[f];show A5 (Ext.refl _) rfl
 |cho r=>let⟨c,s,rfl,a,g⟩:=A;simp[mMx "content" a rfl,bW,e,C];refine W_fn ?_;unfold fJ;let f:aU "standing" (.ref c) h=.ok _ h:=bI a rfl;simp[f,iI g];show A5 (n7 _) ⟨_,rfl,N,aE⟩
 |bag r=>let⟨c,s,rfl,a,g⟩:=A;simp[mMx "content" a rfl,bW,e,C];refine W_fn ?_;unfold jR;let f:aU "standing" (.ref c) h=.ok _ h:=bI a rfl;simp[f,iI g];show A5 (n7 _) ⟨_,rfl,N,aE⟩
 |txt R M=>let⟨c,g,m,t,s,rfl,a,S,K⟩:=A;let⟨U,b,B,T,y⟩:=o;simp[mMx "content" a rfl,bW,e,C];refine W_fn ?_;unfold iP;let w:aU "signs" (.ref c) h=.ok _ h:=bI a rfl;simp[mM,mMx "rows" S.1 rfl,tV,w,d];refine Jo S ⋯ b B _ λZ z l x I G P Y=>?_;let F:aU "marks" (.ref c) z=.ok _ z:=bI (XW a) rfl;simp[mM,mMx "rows" (XW K.1) rfl,tV,F];refine JL ⟨XW K.1,XW K.2⟩ ⋯ (λm p=>by have:=y m p;omega) (xa N x.len) λr V J X j u O=>?_;show A5 (x.trans X) ⟨l,r,Z,V,rfl,⋯,j,X _ _ G,P,Y,u,O⟩
abbrev rV(x:Nm):XQ 0:=[.inr x.1,.inl x.2]
def GB(t:i_ Nm):Ay (t.map rV)=true:=by
 unfold Ay;cases t with
 |nil=>rfl
 |cons x M=>simp[rV];show λ_ _ _=>⟨rfl,rfl⟩
def CI{a b:Nm}(e:rV a=rV b):a=b:=by unfold rV at e;simp at e;show Prod.ext e.1 e.2
abbrev wU(e:En):PV:=.tup [pv e.nm,.str e.kd,e.hd,e.sp]
abbrev Srt(E:i_ En):Prop:=E.Pairwise λa b=>cJ (rV b.nm) (rV a.nm)=false
abbrev Ba(e:En)(w:PV):PV:=.tup [pv e.nm,.str e.kd,e.hd,e.sp,w]
abbrev E4(n:Nat)(h:PH)(o:jh Lf)(v:PV):Prop:=match o with
 |none=>v=.non
 |some L=>tJ n h L v
def E4.mono{o:jh Lf}{v:PV}(H:n'<=n)(k:∀(j) o,n<j->h[j]?=a0 o->h'[j]?=a0 o)(c:E4 n h o v):E4 n' h' o v:=by
 cases o with
 |none=>exact c
 |some L=>exact tJ.mono H k c
abbrev JN(n:Nat)(h:PH)(E:i_ En)(vs:x_ 0):Prop:=vs.length=E.length/\∀(i:Nat) v,vs[i]?=a0 v->∃e w,E[i]?=a0 e/\v=Ba e w/\E4 n h e.lf w
def FS.ext{q:Nat}{lt:Nat}(f:j3 E)(k:tx h'):αc a E:=⟨A5 f.fo,A5 f.ti,A5 f.ls,lX f.md λo=>k _ o,lX f.lv λo=>k _ o,λe H L z=>⟨(δp z).1.keep λi _ o=>k i o,(δp z).2⟩,f.ds,f.os,f.ne,f.nd,f.ro,f.ln,f.lo,λi I=>let ⟨o,e⟩:=f.pl i I;⟨o,A5 e⟩⟩
def Mj{os:i_ En}(hp:os.Perm E)(nd:(E.map (·.nm)).Nodup)(h1:Srt os)(a:Srt E):os=E:=Vo (le:=λa b:En=>cJ _ _=false) (λa b ha hb h1 a=>B' nd _ (hp.mem_iff.mp ha) _ hb<|CI<|qC rfl a h1) h1 a hp
def JO{q:Nat}{lt:Nat}(f:j3 E)(s:Srt E)(k:∀L z,tx z->z[L]?=a0 (.lst<|E.map wU)->Q (.ref L) z):(nQ [.ref lt] h).W Q:=by
 refine W_fn ?_;unfold nP;let m:=f.ln;let⟨o,O,D,I⟩:=tX f.md;let i:iJ o=a0 (E.map λy=>.tup [pv y.nm,pS y]):=by rw[I,yg,mdL,yg];rfl
 let t:cF _ h=true:=(let ⟨_,_,d,_⟩:=bV f.md;d);let w:xK cF fN (mUn (aU "made")<|mV 0) [a0 (.ref lt)] h=.ok (.ref h.length) (h++[.vw 0 lm]):=by simp[f.fm,t,vU O D]
 let H:(h++[γM lm])[lm]?=a0 o:=ZF O;let c:=Gg (js:=[a7,a7]) (tg:=δb<|gCn (gN 0)<|gCn (gN 1) gNl) (tst:=dQ) (elt:=Xj (aT<|aA (mV 0) aC)<|mV 1) (δ:=[a0 _]) (λy=>a0<|wU y) w (Iu aE H i) (by rw[O];show D) H ⋯
  (λy Y=>⟨[a0 (pv y.nm),a0 (pS y)],by simp[dI],λh=>⟨rfl,by
   have:aL (.tup [pv y.nm]) (pS y) h=.ok (wU y) h:=by rfl
   simp[this]⟩⟩)
 rw[filterMap_some]at c;let x:tx (h++[γM lm]++[MO.lst<|E.map wU]):=(n7 _).trans<|Ext.app _ _;let g:(h++[γM lm]++[MO.lst<|E.map wU])[(h++[γM lm]).length]?=a0 (.lst _):=aE;generalize (h++[γM lm]).length=l1 at c g;generalize h++[γM lm]++[MO.lst _]=h1 at c g x;simp[c];let U:Ay (E.map λe=>rV e.nm)=true:=by have:=GB (E.map (·.nm));rwa[yg]at this
 let u:(E.map λe=>rV e.nm).Nodup:=by let N:=f.nd;unfold List.Nodup at N⊢;rw[Ud]at N⊢;show N.imp λn e=>n<|CI e
 refine AQ (S:=shape [.inr "",.inl 0]) (vM g) ⋯ U (λ_ _=>rfl) u (λd D h Q K=>?_) λj z X p r=>?_
 ·refine W_fn ?_;unfold nO;have:vIx (wU d) (.int 0) h=.ok (tP<|rV d.nm) h:=by unfold wU;simp;rfl
  simp[this];show K h<|Ext.refl _
 ·let v:=Mj p f.nd (by assumption) s;rw[v];show A5 (x.trans<|X.trans<|Ext.app _ _) aE
def JP{q:Nat}{lt:Nat}(f:j3 E):jC [.ref lt] h=.ok (.ref h.length) (h++[.lst []]):=by
 let w:(jC [.ref lt] h).W λq H=>q=.ref h.length/\H=h++[.lst []]:=by refine W_fn ?_;unfold nR;let F:aU "failed" (.ref lt) h=.ok _ h:=bI f.ti rfl;simp[F,iI f.ls]
 let⟨q,H,e,rfl,rfl⟩:=gQ w;show e
def P9{q:Nat}{lt:Nat}{x:Nm}(f:j3 E)(z:fnd (tE E) x=a0 e)(t:q<=60)(N:n<h.length)(k:∀v w,tx w->E4 n w e.lf v->Q v w):(dC [.ref l,pv x] h).W Q:=by
 refine W_fn ?_;unfold dB;let H:=f.hasL x;rw[z]at H;let H:cX _ _ h=.ok (.bl e.lf.isSome) h:=H;cases y:e.lf with
 |none=>rw[y]at H k;let H:cX _ _ h=.ok _ h:=H;simp[f.fl,H];show A5 (Ext.refl _) rfl
 |some L=>
  let⟨A,b⟩:=f.le e (rU z).1 L y;rw[(rU z).2]at A;rw[y]at H k;let H:cX _ _ h=.ok _ h:=H;rw[sJ];have:(mIf (aR<|aB cX (mV 1)<|mUn (aU "leaves")<|mV 0) (bM "content" 0 bW (b7 (mUn (aU "leaves")<|mV 0)<|mV 1) aC)<|mC .non) [a0 (.ref l),a0<|pv x] h=bM "content" 0 bW (b7 (mUn (aU "leaves")<|mV 0)<|mV 1) aC [a0 (.ref l),a0<|pv x] h:=by simp[f.fl,H]
  change((mIf _ _ _) [a0 _,a0 _] h).W _
  rw[this];let u:b7 (mUn (aU "leaves")<|mV 0) (mV 1) [a0 (.ref l),a0<|pv x] h=.ok (.ref<|(a x).headD 0) h:=by simp[f.fl,(f.atL z (by rw[y];rfl)),-U0]
  rw[mM,u];show JM N A b t (by simp) k
def P'(n:(E.map (·.nm)).Nodup)(h:e∈E):fnd (tE E) e.nm=a0 e:=by
 cases z:fnd _ e.nm with
 |none=>exact absurd rfl<|qS z e h
 |some u=>rw[B' n e h u (rU z).1 (rU z).2.symm]
def Ml{q:Nat}{lt:Nat}(f:j3 E)(s:Srt E)(S:q<=60)(k:∀r y V H,tx H->H[r]?=a0 (.lst V)->JN r H E V->H[y]?=a0 (.lst [])->Q (.tup [.ref r,.ref y]) H):(iR [.ref l] h).W Q:=by
 refine W_fn ?_;unfold iQ;let⟨v,T,Y,J,rfl,X,G⟩:=gQ<|JO f s (Q:=λv H=>∃L,v=.ref L/\tx H/\H[L]?=a0 (.lst _)) λL H a b=>⟨L,rfl,a,b⟩;let lE:=f.ln;rw[sJ]
 change((aT _) [a0 _] h).W _
 rw[Es,rD,vB,rD];refine Fb (g:=tG J _) (λi v O=>∃e w,E[i]?=a0 e/\v=Ba e w/\E4 T.length O e.lf w) (vD (by simp[mM,mMx "rows" f.ti rfl,wJ,f.ft,Y]) G) (vE G) (by rw[wd];omega) (λi v hA hB N ⟨e,w,z,Z,u⟩=>⟨e,w,z,Z,u.mono (wj _) λj o hj=>N j o ⋯⟩) (λi x d=>?_) λh2 V c B U A=>?_
 ·rw[xf]at d;let⟨e,m,rfl⟩:=xv.mp d;refine⟨[a0<|wU e,a0 (.ref l)],by simp[dI],λp x3 D Q' K=>?_⟩;let t:=f.ext<|X.trans x3;let I:vIx (wU e) (.int 0) p=.ok (pv e.nm) p:=by unfold wU;simp
  let M:=ye m;simp[mM,mMx "content_of" t.fo rfl,pA,I];refine P9 t (P' f.nd M) S D λw n x4 C=>?_;let vp:aL (wU e) (.tup [w]) n=.ok (Ba e w) n:=rfl;simp[vp];show K _ _ x4 ⟨e,w,m,rfl,C⟩
 ·let F:=f.ext<|X.trans c;simp[mM,mMx "lost" F.ti rfl,EV,F.ft,JP F];show A5 V _ ((X.trans c).trans<|Ext.app _ _) (ZF U) ⟨by rw[B,wd],λi v R=>let ⟨e,w,z,Z,u⟩:=A i v R;⟨e,w,z,Z,u.mono (wj _) λj o _ e=>ZF e⟩⟩ aE
abbrev qT(E:i_ En)(d:Dd):i_ En:=match d.ak with
 |.make k=>E++[Xf k]
 |_=>upE E d
abbrev nY(E:i_ En)(d:Dd):Prop:=match d.ak with
 |.make k=>fnd (tE E) d.nm=a7/\d.nm≠root/\(k="count" \/ k="choice" \/ k="bag" \/ k="text")/\E.length<60
 |A=>gK A
abbrev oA(E:i_ En)(ds:i_ Dd):i_ En:=ds.foldl qT E
def rW{k:Str}(h:k="count" \/ k="choice" \/ k="bag" \/ k="text"):∃L,lf0 k=a0 L/\kdL L=k:=by
 let⟨n,N,z,y,x,w⟩:=JA;rcases h with rfl|rfl|rfl|rfl
 ·show⟨.cnt 0,rfl,rfl⟩
 ·show⟨.cho [],by simp[lf0,n],rfl⟩
 ·show⟨.bag [],by simp[lf0,N,z],rfl⟩
 ·show⟨.txt [] [],by simp[lf0,y,x,w],rfl⟩
open H in
def KM.step{d:Dd}(k:KM E)(s:nY E d):KM (qT E d):=by
 unfold qT;unfold nY at s;split
 ·rename_i K e;rw[e]at s;intro y h;rcases wg.mp h with h|h
  ·show k y h
  ·rw[wx.mp h];show rW s.2.2.1
 ·show k.up
section
variable{q lt:Nat}
open H in
def Mn(f:j3 E)(m:KM E)(y:q<=60){d:Dd}(s:nY E d)(K:∀r H A,FS P (q+1) H l lt lm lf ll A (qT E d)->Fr P h H->Q r H):(cZ [.ref l,dP d] h).W Q:=by
 unfold nY at s;unfold qT at K;split at s
 ·rename_i k e;rw[e]at K;show JD f e s.1 s.2.1 (s.2.2.1.imp id<|.imp id<|.imp id .inl) s.2.2.2 λH A F R=>K _ H A F.more R
 ·rename_i e;refine JH f m y s λr H A F R=>K r H A ?_ R;split
  ·rename_i k z;show β9<|e k
  ·show F
def FS.pin(f:j3 E)(N:∃o,h[n]?=a0 o)(F:∀e∈E,e.lf.isSome=true->n∉a e.nm)(r:n∉[l,lt,lm,lf,ll]):FS (λi=>P i\/i=n) q h l lt lm lf ll a E:=by simp at r;refine⟨f.fo,f.ti,f.ls,f.md,f.lv,f.le,f.ds,λe x z i H=>⟨λy=>y.elim (f.os e x z i H).1 λy=>F e x z<|y▸H,(f.os e x z i H).2⟩,f.ne,f.nd,f.ro,f.ln,⟨λy=>y.elim f.lo.1 λy=>r.1 y.symm,λy=>y.elim f.lo.2.1 λy=>r.2.1 y.symm,λy=>y.elim f.lo.2.2.1 λy=>r.2.2.1 y.symm,λy=>y.elim f.lo.2.2.2.1 λy=>r.2.2.2.1 y.symm,λy=>y.elim f.lo.2.2.2.2 λy=>r.2.2.2.2 y.symm⟩,λi H=>H.elim (f.pl i) λy=>y▸N⟩
end
def Mp{ds:i_ Dd}{lo:Nat}(gr:h[r]?=a0 (.lst []))(gl:h[lo]?=a0 (.lst []))(g:h[n]?=a0 (.lst<|ds.map dP))(U:i_ Dd)(hU:∀d∈ds,d∈U)(hlU:U.length<=60)(hw:∀d∈ds,d.seen.length<=100)(hl:ds.length<=1000)(hu:∀d∈ds,∀e∈ds,d.nm=e.nm->d=e)(ro:∀s,(s.map (·.nm)).Nodup->(∀d,d∈s↔d∈ds)->iS s->(∀q d,s[q]?=a0 d->nY (oA []<|s.take q) d)/\Srt (oA [] s)/\s.length<=60)(k:∀s r y V H m,(∀i,i<h.length->H[i]?=h[i]?)->(s.map (·.nm)).Nodup->(∀d,d∈s↔d∈ds)->iS s->H[r]?=a0 (.lst V)->JN m H (oA [] s) V->H[y]?=a0 (.lst [])->h.length<=H.length->Q (.tup [.ref r,.ref y]) H):(AY [.tup [.ref r,.ref lo],.ref n] h).W Q:=by
 refine W_fn ?_;unfold DT;rw[aD,QU];refine JK gr gl (by simp) λt l lt lm lf ll R w=>now ?_;let⟨_,h2,e2,s,L,S,l2,G,J,M,B,rfl⟩:=gQ (B4 U ds hU ⋯ hw hl hu n t (R.1 _ _ (vz.mp g).1 g) (λv H=>∃s L,Ext t H/\t.length<=L/\H[L]?=a0 (.lst<|s.map dP)/\(s.map (·.nm)).Nodup/\(∀d,d∈s↔d∈ds)/\iS s/\v=.ref L) λs L H a b c d e f=>⟨s,L,a,b,c,d,e,f,rfl⟩);let⟨O,Z,ro3⟩:=ro s J M B;let f2:=(w.ext S).pin ⟨_,G⟩ (λe he=>by cases he) (by let z:∀{i:Nat}{o},t[i]?=a0 o->i<t.length:=λe=>(X2 0).1;let⟨o1,t1⟩:=jS w.md;let⟨o2,t2⟩:=jS w.lv;have:=z w.fo;have:=z w.ti;have:=z w.ls;have:=z t1;have:=z t2;simp;omega)
 rw[aD];refine rF (λq p H=>∃a,FS (λi=>i<h.length\/i=L) q H l lt lm lf ll a (oA []<|s.take q)/\KM (oA []<|s.take q)/\Fr (λi=>i<h.length\/i=L) h2 H/\∃Y T X,p=[Y,T,a0 _,X]) ?_ G ⟨_,f2,nofun,⟨λ_ _ _ e=>e,wj _⟩,_,_,_,rfl⟩ ?_ ?_ ?_
 ·simp[e2]
 ·rintro q p H _ ⟨a,f,K,F,_⟩;show F.1 _ _ (.inr rfl) G
 ·rintro q x p H N ⟨a,f,K,F,Y,T,X,rfl⟩;rw[xf]at N;let⟨d,D,rfl⟩:=xv.mp N;let hq:=(vz.mp D).1;let C:=O q d D;let ht:oA [] (s.take<|q+1)=qT (oA []<|s.take q) d:=by unfold oA;rw[Ve,D,List.foldl_append];rfl
  refine⟨_,rfl,?_⟩;unfold wL;simp[mM,mMx "hear" f.fo rfl,wK];refine Mn f K ⋯ C λr P A f' u=>?_;rw[ht];show⟨⟨A,f'⟩,K.step C,λi o I e=>u.1 i o I<|F.1 i o I e,yd F.2 u.2⟩
 ·rintro p H ⟨a,f,K,F,Y,T,X,rfl⟩;rw[wd,VG]at f;refine now ?_;simp[mM,mMx "base" f.fo rfl,EW];refine Ml f Z ⋯ λr y V P X j rv gy=>?_;refine k s r y V P _ (λi I=>?_) J M B j rv gy (by have:=X.len;have:=F.2;have:=S.len;have:=R.2;omega);let E:=Uc I;rw[E];show X _ _<|F.1 _ _ (.inl I)<|S _ _<|R.1 _ _ I E
def GC(x c)(h):∃v,nC [.int x,.int c] h=.ok (.int v) h:=by
 let w:(nC [.int x,.int c] h).W λp H=>(∃v,p=.int v)/\H=h:=by refine W_fn ?_;simp[wG,Dq]
 let⟨p,H,e,⟨v,rfl⟩,rfl⟩:=gQ w;show⟨v,e⟩
def Bb(n):∀s Y:Ze 0,∃c,ltL (ltP<|n+1) (s.map stp) (Y.map stp)=a0 c
 |[],[]=>⟨_,rfl⟩
 |[],_::_=>⟨_,rfl⟩
 |_::_,[]=>⟨_,rfl⟩
 |x::s,y::Y=>by
  simp only[xg,ltL];by_cases h:x=y
  ·rw[if_pos<|by rw[h]];show Bb n s Y
  ·rw[if_neg λz=>h<|B1 z];show⟨_,Ja n x y h⟩
def tY(p:Ze 0):(PV.tup<|p.map stp).ky 20=true:=by
 change(p.map stp).all _=true
 rw[List.all_map];show xi.mpr λy _=>rfl
def Pa(x y)(h):∃z,(z=x\/z=y)/\sS [pl x,pl y] h=.ok (pl z) h:=by
 let⟨c,e⟩:=Bb 18 y x;have:=IR (h:=h) (tY x) (tY y) e;cases c
 ·show⟨x,.inl rfl,this⟩
 ·show⟨y,.inr rfl,this⟩
def Pb(x y)(h):∃z,(z=x\/z=y)/\sT [pl x,pl y] h=.ok (pl z) h:=by
 let⟨c,e⟩:=Bb 18 x y;have:=IS (h:=h) (tY x) (tY y) e;cases c
 ·show⟨x,.inl rfl,this⟩
 ·show⟨y,.inr rfl,this⟩
def Bc{α:Type}(f:α->PV){xs:ZH 0}(h:xs≠[])(i):∃w,atI (xs.map f) (i%(xs.length:Int))=a0 (f w)/\w∈xs:=by
 let⟨p,e,m⟩:=Le (xs:=xs.map f)<|cA h;let⟨w,H,rfl⟩:=wo.mp m;rw[wd]at e;show⟨w,e,H⟩
variable{lp lx:Nat}
def CJ{Ps:i_ (Ze 0)}{i:Nat}(hi:i<xs.length)(x:h[lx]?=a0 (.lst<|xs.map PV.int))(g:h[lp]?=a0 (.lst<|Ps.map pl))(n:Ps≠[]):∃p∈Ps,∃v,vIx (.ref lx) (.int<|i) h=.ok (.int v) h/\vIx (.ref lp) (.int<|v%(Ps.length:Int)) h=.ok (pl p) h:=by
 let⟨w,e,m⟩:=Bc pl n xs[i];refine⟨w,m,xs[i],?_,?_⟩
 ·rw[bE x,nS hi];rfl
 ·rw[bE g,e];rfl
def E5(l)(H:l≠[])(i)(g:h[n]?=a0 (.lst<|l.map PV.str)):∃w∈l,vIx (.ref n) (.int<|i%(l.length:Int)) h=.ok (.str w) h:=by let⟨w,e,m⟩:=Bc _ H i;show⟨w,m,by rw[bE g,e];rfl⟩
abbrev N2(Ps:i_ (Ze 0))(A:Ak):Prop:=gK A/\match A with
 |.wrt u _ _=>u∈Ps
 |_=>True
def Pc:∀z∈([("x" : Str),"yz","a b"]:yp 0),1<=z.length/\z.length<=3/\Asc z:=by
 unfold Asc
 decide +kernel
def CK{Ps:i_ (Ze 0)}(jw:xs.length=13)(b:h[lx]?=a0 (.lst<|xs.map PV.int))(G:h[lp]?=a0 (.lst<|Ps.map pl))(N:Ps≠[])(lP:∀p∈Ps,p.length<=900)(t:Nm)(k:∀A H,tx H->N2 Ps A->Q (.tup<|akP t A) H):(lF [.ref lx,pv t,.ref lp] h).W Q:=by
 let⟨o,M,v3,e3,m⟩:=CJ (i:=3) ⋯ b G N;let⟨w,m2,v4,e4,j⟩:=CJ (i:=4) ⋯ b G N;let I:∀i:Nat,i<13->∃v:Int,∀H,tx H->vIx (.ref lx) (.int (i:Int)) H=.ok (.int v) H:=λi hi=>⟨xs[i]'⋯,λH x=>by rw[bE<|x _ _ b,nS ⋯];rfl⟩;let⟨s,e1⟩:=I 1 (by decide);let⟨V,e5⟩:=I 5 (by decide);let⟨a,e6⟩:=I 6 (by decide);refine W_fn ?_;unfold pH;let L:=vC G;rw[wd]at L;let D:vIx (.ref lx) (.int 3) h=.ok (.int v3) h:=e3;let B:vIx (.ref lx) (.int 4) h=.ok (.int v4) h:=e4;let U:∀H,tx H->vIx (.ref lx) (.int 1) H=.ok (.int s) H:=e1;let T:∀H,tx H->vIx (.ref lx) (.int 5) H=.ok (.int V) H:=e5;let pos:0<(Ps.length:Int):=by have:=List.length_pos_iff.mpr N;omega
 rw[aD];simp(disch:=omega) [L,D,m];refine now ?_;rw[aD];simp(disch:=omega) [L,B,j];refine now ?_;rw[aD,cD];let K:=YX [MO.lst<|[("x" : Str),"yz","a b"].map PV.str];let⟨z,hz,ez⟩:=E5 [("x" : Str),"yz","a b"] (by simp) a (h:=h++[MO.lst<|[("x" : Str),"yz","a b"].map PV.str]) (n:=h.length) aE;let c:=U h<|Ext.refl _;let y:=T h<|Ext.refl _;by_cases R:s%10<6
 ·let Z:vIx (.ref h.length) (.int<|a%3) (h++[MO.lst [.str "x",.str "yz",.str "a b"]])=.ok (.str z) (h++[MO.lst [.str "x",.str "yz",.str "a b"]]):=ez;let q:=e6 _ K;let u:vIx (.ref lx) (.int 6) (h++[MO.lst [.str "x",.str "yz",.str "a b"]])=.ok (.int a) (h++[MO.lst [.str "x",.str "yz",.str "a b"]]):=q;simp(disch:=omega) [c,R,y,u,Z];let⟨s1,s2,s3⟩:=Pc z hz;show k (.wrt o (1-V%2*2) z) _ K ⟨⟨lP _ M,s1,s2,s3⟩,M⟩
 ·simp(disch:=omega) [c,R];refine now ?_;rw[aD,cD];by_cases P:s%10=6
  ·let cv:∃g:i_ (Ze 0),g.length<=1000/\fY [pl o,pl w] a7 (a0<|1+V%2)=g.map pl:=by
    rcases Int.emod_two_eq V with e|e <;> rw[e]
    ·show⟨[o],by simp,rfl⟩
    ·show⟨[o,w],by simp,rfl⟩
   let⟨g,lg,eg⟩:=cv;simp(disch:=omega) [c,P,y,eg];show k (.ct g) h (Ext.refl _) ⟨lg,trivial⟩
  ·simp(disch:=omega) [c,P];refine now ?_;rw[aD];let J:=YX [MO.lst<|[("bold" : Str),"b","bo"].map PV.str];let⟨Y,hz2,d⟩:=E5 [("bold" : Str),"b","bo"] (by simp) V (h:=h++[MO.lst<|[("bold" : Str),"b","bo"].map PV.str]) (n:=h.length) aE;let E:vIx (.ref h.length) (.int<|V%3) (h++[MO.lst [.str "bold",.str "b",.str "bo"]])=.ok (.str Y) (h++[MO.lst [.str "bold",.str "b",.str "bo"]]):=d;let r:vIx (.ref lx) (.int 5) (h++[MO.lst [.str "bold",.str "b",.str "bo"]])=.ok (.int V) (h++[MO.lst [.str "bold",.str "b",.str "bo"]]):=T _ J;let X:tx (h++[MO.lst [.str "bold",.str "b",.str "bo"]]):=J;simp(disch:=omega) [r,E];generalize h++[MO.lst [.str "bold",.str "b",.str "bo"]]=hA at X;refine now ?_;let⟨f,mf,F⟩:=Pa o w hA;let⟨l,ml,S⟩:=Pb o w hA;let C:=U hA X;rw[aD,cD];by_cases O:s%10<9
   ·simp(disch:=omega) [C,O,F,S];show k (.mrk "mark" f l Y) hA X ⟨.inl rfl,trivial⟩
   ·simp(disch:=omega) [C,O];refine now ?_;simp(disch:=omega) [F,S];show k (.mrk "clear" f l Y) hA X ⟨.inr rfl,trivial⟩
def RI(l:i_ Nm)(H:l≠[])(i)(g:h[n]?=a0 (.lst<|l.map pv)):∃w∈l,vIx (.ref n) (.int<|i%(l.length:Int)) h=.ok (pv w) h:=by let⟨w,e,m⟩:=Bc pv H i;show⟨w,m,by rw[bE g,e];rfl⟩
variable{hs:yp 0}{lh:Nat}{w0:Str}
def Pd{Ps:i_ (Ze 0)}{c:Int}(l:xs.length=13)(g:h[lx]?=a0 (.lst<|xs.map PV.int))(G:h[lh]?=a0 (.lst<|(w0::hs).map PV.str))(F:h[lp]?=a0 (.lst<|Ps.map pl))(B:Ps≠[])(D:∀p∈Ps,p.length<=900)(k:∀t A H,tx H->N2 Ps A->Q (.tup<|akP t A) H):(EO [.ref lx,.int c,.ref lh,.ref lp] h).W Q:=by
 let I:∀i:Nat,i<13->∃v:Int,∀H,tx H->vIx (.ref lx) (.int (i:Int)) H=.ok (.int v) H:=λi hi=>⟨xs[i]'⋯,λH x=>by rw[bE<|x _ _ g,nS ⋯];rfl⟩;let⟨j,P⟩:=I 1 (by decide);let⟨w,O⟩:=I 2 (by decide);let⟨U,N⟩:=I 3 (by decide);let⟨V,M⟩:=I 9 (by decide);let T:∀H,tx H->vIx (.ref lx) (.int 1) H=.ok (.int j) H:=P;let S:∀H,tx H->vIx (.ref lx) (.int 2) H=.ok (.int w) H:=O;let R:∀H,tx H->vIx (.ref lx) (.int 3) H=.ok (.int U) H:=N;let o:∀H,tx H->vIx (.ref lx) (.int 9) H=.ok (.int V) H:=M;let f:∀H,tx H->vIx (.ref lh) (.int 0) H=.ok (.str w0) H:=λH x=>by rw[bE<|x _ _ G,show atI ((w0::hs).map PV.str) 0=a0 (.str w0) from bZ (i:=0) rfl];rfl
 refine W_fn ?_;unfold J5;rw[aD];simp(disch:=omega) [S h<|Ext.refl _];refine now ?_;rw[aD];simp(disch:=omega) [f h<|Ext.refl _];refine now ?_
 -- the thing
 let r:∀(t:Nm)(y:PH),tx y->((aG (aY 6 (aW 2 nC (aA (b7 (mV 0) (d3 3)) (aA (mV 1) aC))))
 (aG (bG (aR (W7 (mV 4) (d3 0)))
  (aP<|aT<|aA (mC<|.str "add")<|aA (mV 5)<|aA (mV 6) aC)
  bP)
 (aG (bG (aR (W7 (mV 4) (d3 1)))
  (aP<|aT<|aA (mC<|.str "choose")<|aA (mV 5)<|aA (mV 6) aC)
  bP)
 (aG (bG (aR (W7 (mV 4) (d3 2)))
  (aP<|aT<|aA (b7 (cO<|aA (mC<|.str "put")<|aA (mC<|.str "take") aC)<|aB cK (b7 (mV 0)<|d3 1)<|d3 2)<|aA (mV 5)<|aA (mV 6) aC)
  bP)
 (aP (aW 3 lF (aA (mV 0) (aA (mV 5) (aA (mV 3) aC))))))))) [a0 (.ref lx),a0 (.int c),a0 (.ref lh),a0 (.ref lp),a0 (.int (w%4)),a0 (pv t),a7] y).W { nx:=λ_ h=>Q .non h,rt:=Q}:=λt y X=>by
  let⟨v,L⟩:=GC U c y;rw[aD];simp(disch:=omega) [R y X,L];refine now ?_;rw[aD,cD];by_cases d:w%4=0
  ·simp[d];show k t (.num "add" v) y X ⟨.inl rfl,trivial⟩
  ·simp[d];refine now ?_;rw[aD,cD];by_cases b:w%4=1
   ·simp[b];show k t (.num "choose" v) y X ⟨.inr<|.inl rfl,trivial⟩
   ·simp[b];refine now ?_;rw[aD,cD];by_cases Y:w%4=2
    ·let x2:=Ext.app y [MO.lst<|[("put" : Str),"take"].map PV.str];let⟨z,Z,J⟩:=E5 [("put" : Str),"take"] (by simp) j (h:=y++[MO.lst<|[("put" : Str),"take"].map PV.str]) (n:=y.length) aE;let E:vIx (.ref y.length) (.int<|j%2) (y++[MO.lst [.str "put",.str "take"]])=.ok (.str z) (y++[MO.lst [.str "put",.str "take"]]):=J;let s:Ext y (y++[MO.lst [.str "put",.str "take"]]):=x2;let C:=T _<|X.trans s;simp(disch:=omega) [Y,C,E];refine k t (.num z v) _ (X.trans s) ⟨?_,trivial⟩;simp at Z;rcases Z with rfl|rfl
     ·show .inr (.inr<|.inl rfl)
     ·show .inr (.inr<|.inr rfl)
    ·simp[Y];refine now ?_;simp;refine CK l (X _ _ g) (X _ _ F) B D t λA H x' a=>k t A H (X.trans x') a
 rw[aD,cD];by_cases q:V%8=5
 ·let⟨t,_,K⟩:=RI [root,(w0,1+V/8%4),(w0,1000000000)] (by simp) (V/32) (h:=h++[MO.lst<|[root,(w0,1+V/8%4),(w0,1000000000)].map pv]) (n:=h.length) aE;let e:vIx (.ref h.length) (.int<|V/32%3) (h++[MO.lst [.tup [.str "",.int 0],.tup [.str w0,.int<|1+V/8%4],.tup [.str w0,.int 1000000000]]])=.ok (pv t) (h++[MO.lst [.tup [.str "",.int 0],.tup [.str w0,.int<|1+V/8%4],.tup [.str w0,.int 1000000000]]]):=K;let u:tx (h++[MO.lst [.tup [.str "",.int 0],.tup [.str w0,.int<|1+V/8%4],.tup [.str w0,.int 1000000000]]]):=YX [MO.lst<|[root,(w0,1+V/8%4),(w0,1000000000)].map pv];let m:=o _ u;simp(disch:=omega) [o h<|Ext.refl _,q,f h<|Ext.refl _,m,e];show now<|r t _ u
 ·simp(disch:=omega) [o h<|Ext.refl _,q];show now<|r (w0,1+w%4) h<|Ext.refl _
def E6(u:Ze 0)(s:Int)(nm t:Nm)(z:Str)(U:u.length<=900)(h1:1<=z.length)(o:z.length<=3)(h:PH):kD [pv nm,.tup<|akP t<|.wrt u s z] h=.ok (.ref h.length) (h++[.lst<|(YY nm.1 nm.2 z.length).map pl]):=by
 let w:(kD [pv nm,.tup<|akP t<|.wrt u s z] h).W λp H=>p=.ref h.length/\H=h++[.lst<|(YY nm.1 nm.2 z.length).map pl]:=by
  refine W_fn ?_;unfold wH akP;rw[aD];let v:aL (.tup<|u.map stp) (.tup [.tup [.int s,.str nm.1,.int nm.2,.int 0]]) h=.ok (pl<|oT u s nm.1 nm.2 0) h:=by rw[oH (by simp;omega)];simp[oT,pl,stp]
  simp(disch:=omega) [pv,pl,-oH];rw[v,BS];refine now ?_;rw[aD];simp;refine now ?_;rw[aD];refine Dr (lo:=1) (j:=z.length) (λq y H=>H=h++[.lst<|(YY nm.1 nm.2<|q+1).map pl]/\∃x X,y=[a0<|pv nm,x,a0<|pl<|oT u s nm.1 nm.2 q,a0 (.ref h.length),X]) ?_ ?_ ?_ ?_ ?_
  ·simp(disch:=omega)
  ·omega
  ·show⟨rfl,_,_,rfl⟩
  ·rintro q y H Q ⟨rfl,x,X,rfl⟩;let g:(h++[MO.lst<|(YY nm.1 nm.2<|q+1).map pl])[h.length]?=a0 (.lst _):=aE;let E:=nU (u:=u) (s:=s) (hd:=nm.1) (n:=nm.2) q;let r:=nT (u:=u) (s:=s) (hd:=nm.1) (n:=nm.2) (m:=q+1);let V:aL (pl<|oT u s nm.1 nm.2 q) (.tup [.tup [.int 1,.str nm.1,.int nm.2,.int<|1+(q:Int)]]) (h++[MO.lst<|(YY nm.1 nm.2<|q+1).map pl])=.ok (pl<|oT u s nm.1 nm.2<|q+1) (h++[MO.lst<|(YY nm.1 nm.2<|q+1).map pl]):=by unfold pl;rw[oH (by simp;omega)];simp[oT,stp];omega
   unfold pI;rw[aD];simp[pv0,pv1,V];refine now ?_;let a:γC (.ref h.length) [pl _] (h++[MO.lst _])=.ok .non _:=dZ (p:=pl<|oT u s nm.1 nm.2<|q+1) g (by rw[wd];omega);simp[iX g,a];rw[zK (m:=q+1)];simp
  ·rintro y H ⟨rfl,x,X,rfl⟩;refine now ?_;simp;have:z.length-1+1=z.length:=⋯;rw[this]
 let⟨p,H,e,rfl,rfl⟩:=gQ w;show e
def iT(h):∀k,aK (emb k) (.inr h)=(look k h).map PV.int
 |[]=>rfl
 |p::r=>by
  change aK ((UL p.1,PV.int p.2)::emb r) _=_
  unfold aK look;by_cases e:p.1=h
  ·rw[Yn 0,if_pos<|by rw[e]];rfl
  ·rw[W5 0,if_neg<|cA e];show iT h r
def tZ(kvs)(h)(n):cL (emb kvs) (.inr h) (.int n)=emb (dput kvs h n):=by
 unfold cL dput;rw[iT];cases look kvs h with
 |none=>simp[emb]
 |some m=>
  simp;unfold emb;rw[yg,yg];apply y1;intro p _;by_cases e:p.1=h
  ·simp[e]
  ·simp[e]
def Bd{h:Str}{n:Int}:(dput S h n).length<=S.length+1:=by unfold dput;split <;> simp
open H in
def GE{κ:Type}[XR 0](s)(k:κ)(p)(K:κ):aK (cL s k p) K=if K=k then a0 p else aK s K:=by
 let m:∀s:i_ _,aK (s.map λV=>if V.1=k then(V.1,p) else V) K=if K=k then(aK s k).map (λ_=>p) else aK s K:=λs=>by
  induction s with
  |nil=>simp[aK]
  |cons x r i=>
   let⟨a,y⟩:=x;by_cases e:a=k
   ·subst e;simp[if_pos,aK];rw[i];by_cases c:K=a
    ·subst c;simp
    ·let C:¬ a=K:=λz=>c z.symm;simp[c,C]
   ·simp[W5 0,aK];rw[i];by_cases c:K=k
    ·subst c;simp[e]
    ·simp[c]
 let a:∀s:i_ _,aK s k=a7->aK (s++[(k,p)]) K=if K=k then a0 p else aK s K:=λs=>by
  induction s with
  |nil=>
   intro _;by_cases c:K=k
   ·simp[aK,c]
   ·let C:¬ k=K:=λz=>c z.symm;simp[aK,c,C]
  |cons x r i=>
   intro e;unfold aK at e;split at e
   ·cases e
   ·rename_i c;rw[List.cons_append];unfold aK;rw[i e];by_cases q:K=k
    ·subst q;simp[c]
    ·simp[q]
 unfold cL;split
 ·rename_i c;rw[m];let⟨v,e⟩:=y4.mp c;rw[e];rfl
 ·rename_i c;show a s<|cA c
def eU(S)(h h')(n):look (dput S h n) h'=if h'=h then a0 n else look S h':=by
 let e:=GE (emb S) (UL h:Key) (.int n)<|UL h';rw[tZ,iT,iT]at e;by_cases c:h'=h
 ·rw[if_pos<|by rw[c]]at e;rw[Xy 0];cases E:look _ h' with
  |none=>rw[E]at e;cases e
  |some m=>rw[E]at e;cases e;rfl
 ·rw[if_neg<|λz=>c<|Sum.inr.inj z]at e;rw[YC 0];cases E:look _ h' with
  |none=>rw[E]at e;cases y:look S h' with
   |none=>rfl
   |some m=>rw[y]at e;cases e
  |some m=>rw[E]at e;cases y:look S h' with
   |none=>rw[y]at e;cases e
   |some k=>rw[y]at e;cases e;rfl
def JQ{m:Int}(e:h[n]?=a0 (.dK<|emb S))(l:look S x=a0 m):vIx (.ref n) (.str x) h=.ok (.int m) h:=by let E:=iT x S;rw[l]at E;rw[_L.vIx_dK e,E];rfl
abbrev prs(E:Seen)(zs:yp 0):Seen:=(zs.filter λz=>decide (0<(look E z).getD 0)).map λz=>(z,(look E z).getD 0)
def Fc{E:Seen}:p∈prs E zs↔p.1∈zs/\p.2=(look E p.1).getD 0/\0<p.2:=by
 unfold prs;rw[wo];constructor
 ·rintro⟨z,h,rfl⟩;let⟨a,b⟩:=Uk.mp h;show⟨a,rfl,of_decide_eq_true b⟩
 ·rintro⟨a,b,c⟩;show⟨p.1,Uk.mpr ⟨a,decide_eq_true (by rw[<-b];show c)⟩,by rw[<-b]⟩
def Pe(h:∀p∈S,0<=p.2){q:Str×Int}(H:q∈S):q.2<=tot S:=by
 unfold tot;let n:∀S:Seen,(∀p∈S,0<=p.2)->0<=(S.map (·.2)).sum:=λS h=>by
  induction S with
  |nil=>exact εb 0
  |cons p r i=>rw[xg,List.sum_cons];have:=h p wa;have:=i λx X=>h x (YI X);omega
 induction S with
 |nil=>cases H
 |cons p r i=>
  rw[xg,List.sum_cons];let z:=h p wa;let R:=λx(X)=>h x<|wb _ X;rcases wu.mp H with rfl|H
  ·have:=n r R;omega
  ·have:=i R H;omega
def Pf(e:h[n]?=a0 (.lst<|S.map pv)):mO [.ref n] h=.ok (sv S) h:=by simp[mO,aH,e,F0]
abbrev mks(w0:Str):i_ Dd:=[⟨(w0,1),[],root,.make "count"⟩,⟨(w0,2),[(w0,1)],root,.make "choice"⟩,⟨(w0,3),[(w0,2)],root,.make "bag"⟩,⟨(w0,4),[(w0,3)],root,.make "text"⟩]
structure GD(d:Dd):Prop where
 ln:d.seen.length<=100
 st:4<=tot d.seen
 ok:gK d.ak
structure DN(w0:Str)(dl:i_ Dd)(D:Seen):Prop where
 ok:∀d∈dl,GD d
 nd:((mks w0++dl).map (·.nm)).Nodup
 h0:∃n,look D w0=some n/\4<=n
 nn:∀w,0<=(look D w).getD 0
 cnt:∀d∈mks w0++dl,d.nm.2<=(look D d.nm.1).getD 0
variable{dl:i_ Dd}
open H in
def DN.snoc{D:Seen}(i:βu D){d:Dd}(o:GD d)(e:d.nm.2=(ZD d.nm.1).getD 0+1):DN w0 (dl++[d]) (dput D d.nm.1 d.nm.2):=by
 let⟨n,H,N⟩:=i.h0;let y:=i.nn d.nm.1;refine⟨λx h=>?_,?_,?_,λw=>?_,λx h=>?_⟩
 ·rcases wg.mp h with z|z
  ·show i.ok x z
  ·rw[wx.mp z];show o
 ·rw[<-wy,zv,Vg];refine⟨i.nd,by simp,λa A b B z=>?_⟩;let⟨x,h,rfl⟩:=wo.mp A;let E:=z.trans<|cA B;have:=i.cnt x h;rw[E]at this;omega
 ·rw[eU];split
  ·rename_i c;refine⟨_,rfl,?_⟩;rw[<-c,H]at e;let e:d.nm.2=n+1:=e;omega
  ·show⟨n,H,N⟩
 ·rw[eU];split
  ·change 0<=d.nm.2
   omega
  ·show i.nn w
 ·rw[eU];rw[<-wy]at h;rcases wg.mp h with z|z
  ·have:=i.cnt x z;split
   ·rename_i c;rw[c]at this
    change x.nm.2<=d.nm.2
    omega
   ·show this
  ·rw[wx.mp z,if_pos rfl];show εb 0
def DN.start(w0:Str):DN w0 [] [(w0,4)]:=by
 refine⟨wM,?_,⟨4,by simp[look],⋯⟩,λw=>?_,λd hd=>?_⟩
 ·simp[mks]
 ·simp only[look];split
  ·change(0:Int)<=4
   omega
  ·show εb 0
 ·simp[mks]at hd;rcases hd with rfl|rfl|rfl|rfl <;> simp[look]
abbrev SE6(w0:Str)(hs:yp 0)(n:Int)(q:Nat)(E:Seen):Prop:=look E w0=a0 n/\(∀z∈hs.take q,∃m,look E z=a0 m)/\(∀w,0<=(look E w).getD 0)/\E.length<=q+1
abbrev SJ(w0:Str)(hs:yp 0)(n:Int)(lc lh lr lm lp:Nat)(h:PH)(c:Int)(lx ls:Nat)(w:Str)(x7 ax:jh PV)(q:Nat)(δ:Ev)(h':PH):Prop:=∃E x5,SE6 w0 hs n q E/\(∀i o,i≠ls->h[i]?=a0 o->h'[i]?=a0 o)/\h'[ls]?=a0 (.dK<|emb E)/\δ=[a0 (.ref lc),a0 (.ref lh),a0 (.ref lr),a0 (.ref lm),a0 (.ref lp),x5,a0 (.ref ls),x7,a0 (.int c),a0 (.ref lx),a0<|.str w,ax]
variable{E':FE}{ax x7 y5:jh PV}{lc:Nat}
open H in
def Mq(d:(w0::hs).Nodup)(lhs:hs.length<=2){D:Seen}(F:∀w,0<=(ZD w).getD 0)(L:xs.length=13)(U:∀x∈xs,0<=x/\x<2147483647){lr:Nat}{c n:Int}(K:0<=n)(P:h[lx]?=a0 (.lst<|xs.map PV.int))(p:h[lh]?=a0 (.lst<|(w0::hs).map PV.str))(M:h[lm]?=a0 (.dK<|emb D))(R:h[ls]?=a0 (.dK<|emb [(w0,n)]))(A:lx≠ls)(J:lh≠ls)(nm:lm≠ls)(k:∀E r H,SE6 w0 hs n hs.length E->(∀i o,i≠ls->h[i]?=a0 o->H[i]?=a0 o)->H[ls]?=a0 (.dK<|emb E)->E'.nx [a0 (.ref lc),a0 (.ref lh),a0 (.ref lr),a0 (.ref lm),a0 (.ref lp),r,a0 (.ref ls),x7,a0 (.int c),a0 (.ref lx),a0<|.str w,ax] H):
  (dH (qG<|aA (d3 1)<|aA (βt<|aA (mV 1) aC) aC) (gN 5) kE [a0 (.ref lc),a0 (.ref lh),a0 (.ref lr),a0 (.ref lm),a0 (.ref lp),y5,a0 (.ref ls),x7,a0 (.int c),a0 (.ref lx),a0<|.str w,ax] h).W E':=by
 refine Dr (lo:=1) (j:=(hs.length:Int)+1) (SJ w0 hs n lc lh lr lm lp h c lx ls w x7 ax) (by simp[vC p]) ⋯ ⟨[(w0,n)],_,⟨by simp[look],by simp,λw=>?_,by simp⟩,λ_ _ _ e=>e,R,rfl⟩ ?_ ?_
 ·simp only[look];split
  ·show K
  ·show εb 0
 ·rintro q δ H hq ⟨E,r,⟨s1,s2,s3,s4⟩,f,g,rfl⟩;let Q:q<hs.length:=⋯;let X:=Zn A P;let G:=Zn J p;let m:=Zn nm M;let a:vIx (.ref lh) (.int<|1+(q:Int)) H=.ok (.str hs[q]) H:=by
   let u:(1+(q:Int))=((q+1:Nat):Int):=⋯;rw[u,bE G,show atI ((w0::hs).map PV.str) ((q+1:Nat):Int)=a0 (.str hs[q]) from bZ (by simp[Q])]
   rfl
  let V:vIx (.ref lx) (.int<|10+(1+(q:Int))) H=.ok (.int xs[11+q]) H:=by
   let u:(10+(1+(q:Int)))=((11+q:Nat):Int):=⋯;rw[u,bE X,nS ⋯];rfl
  let B:=U xs[11+q]<|xt _;generalize xs[11+q]=v at V B;let l:hs[q]≠w0:=λz=>by have:=(z7.mp d).1;show this<|z▸xt _
  let Z:hs.take (q+1)=hs.take q++[hs[q]]:=by simp
  generalize hs[q]=z at a l Z;let t:=Ca (x:=z) (z:=.int 0) m;rw[iT]at t;let T:((ZD z).map PV.int).getD (.int 0)=.int ((ZD z).getD 0):=by cases look D z <;> rfl
  rw[T]at t;let dz:=F z;let O:iZ (.ref ls) (.str z) (.int<|v%((ZD z).getD 0+1)) H=a0 (H.set ls<|.dK<|emb<|dput E z<|v%((ZD z).getD 0+1)):=by rw[AF g (by unfold emb;rw[wd];omega),tZ]
  let N:=WL v (b:=(ZD z).getD 0+1) ⋯;unfold kE;generalize (ZD z).getD 0=dz0 at*;simp(disch:=omega) [V,a,C0 m,t];refine⟨_,O,dput E z<|v%(dz0+1),_,⟨?_,λy Y=>?_,λy=>?_,?_⟩,λi o I e=>aQ (f i o I e)<|zj I,bF g,rfl⟩
  ·rw[eU,if_neg<|zj l];show s1
  ·rw[eU];rw[Z]at Y;split
   ·show⟨_,rfl⟩
   ·rename_i C;rcases wg.mp Y with Y|Y
    ·show s2 y Y
    ·show(C<|wx.mp Y).elim
  ·rw[eU];split
   ·show N
   ·show s3 y
  ·have:=Bd (S:=E) (h:=z) (n:=v%(dz0+1));omega
 ·rintro δ H ⟨E,r,s,f,g,rfl⟩;have:((hs.length:Int)+1-1).toNat=hs.length:=⋯;rw[this]at s;show k E _ H s f g
abbrev Be(q:Nat)(Ps:i_ (Ze 0)):Prop:=Ps≠[]/\Ps.length<=1+3*q/\∀p∈Ps,p.length<=1+3*q
def Be.up{q:Nat}{Ps:i_ (Ze 0)}(p:Be q Ps):Be (q+1) Ps:=⟨p.1,by have:=p.2.1;omega,λx h=>by have:=p.2.2 x h;omega⟩
def Be.more{q:Nat}{Ps:i_ (Ze 0)}(p:Be q Ps){u:Ze 0}(U:u∈Ps)(s)(hd)(n)(M:m<=3):Be (q+1) (Ps++K_ m):=by
 refine⟨by simp[p.1],by rw[wq,nT];have:=p.2.1;omega,λx h=>?_⟩;rcases wg.mp h with h|h
 ·show p.up.2.2 x h
 ·let⟨j,H,rfl⟩:=wo.mp h;have:=Vu.mp H;have:=p.2.2 u U;rw[nU];omega
abbrev DJ(w0:Str)(lc lh:Nat)(h:PH)(q:Nat)(δ:Ev)(h':PH):Prop:=∃dl D Ps lp,tx h'/\h'[h.length]?=a0 (.lst<|(YM 0++dl).map dP)/\h'[h.length+1]?=a0 (.dK<|emb D)/\h'[lp]?=a0 (.lst<|Ps.map pl)/\h.length+1<lp/\βu D/\dl.length=q/\D.length<=q+1/\Be q Ps/\∃x5 x6 x7 x8 x9 aw ax,δ=[a0 (.ref lc),a0 (.ref lh),a0 (.ref h.length),a0<|.ref<|h.length+1,a0 (.ref lp),x5,x6,x7,x8,x9,aw,ax]
variable{N0:Int}{aw x5 x8 x9:jh PV}
def N3(lhs:hs.length<=2)(f7:(w0::hs).Nodup){h2:PH}{q:Nat}{D E1:Seen}{Ps:i_ (Ze 0)}{t:Nm}(x2:tx h2)(bh:lh<h.length)(y:h2[h.length]?=a0 (.lst<|(YM 0++dl).map dP))(G:h2[h.length+1]?=a0 (.dK<|emb<|dput D w<|N0+1))(o:h2[lp]?=a0 (.lst<|Ps.map pl))(B:h.length+1<lp)(N:βu D)(ld:dl.length=q)(hq:q<=60)(lD:D.length<=q+1)(po:Be (q+1) Ps)(g:h2[lh]?=a0 (.lst<|(w0::hs).map PV.str))(p:h2[ls]?=a0 (.dK<|emb E1))(E:∃m,Z1 w0=a0 m/\4<=m)(u:∀z∈w0::hs,∃m,Z1 z=a0 m)(e:(ZD w).getD 0=N0)(K:gK A)(k:∀δ h',εc (q+1) δ h'->E'.nx δ h'):
  ((iU<|mMt isL (onL bA) (mV 2)<|aA (aT<|aA (mV 11)<|aA (mCB mO<|aA (bB [a7,a0 6] (aV<|mCB kU<|aA (mV 1) aC) (gN 0) (aR<|aB vGt (b7 (mV 1)<|mV 0)<|d3 0)<|aT<|aA (mV 0)<|aA (b7 (mV 1)<|mV 0) aC) aC)<|aA (mV 7) aC) aC) [a0 (.ref lc),a0 (.ref lh),a0 (.ref h.length),a0<|.ref<|h.length+1,a0 (.ref lp),x5,a0 (.ref ls),a0<|.tup<|akP t A,x8,x9,aw,a0<|.tup [.str w,.int<|N0+1]] h2).W E':=by
 let⟨zs,pz,so⟩:=C7 g (by simp;omega);let lz:zs.length=hs.length+1:=by rw[pz.length_eq];rfl
 let x3:Ext h2 (h2++[MO.lst<|zs.map PV.str]):=n7 _;let gz:(h2++[MO.lst<|zs.map PV.str])[h2.length]?=a0 _:=aE;generalize h2.length=l3 at so gz;generalize h2++[MO.lst<|zs.map PV.str]=h3 at so x3 gz;let a:=eO (m:=mCB kU<|aA (mV 1) aC) (js:=[a7,a0 6]) (tg:=gN 0) (tst:=aR<|aB vGt (b7 (mV 1)<|mV 0)<|d3 0) (elt:=aT<|aA (mV 0)<|aA (b7 (mV 1)<|mV 0) aC) (δ:=[a0 (.ref lc),a0 (.ref lh),a0 (.ref h.length),a0<|.ref<|h.length+1,a0 (.ref lp),x5,a0 (.ref ls),a0<|.tup<|akP t A,x8,x9,aw,a0<|.tup [.str w,.int<|N0+1]]) (h:=h2) (h1:=h3) (n:=l3) (ys:=zs) (emb:=PV.str)
  (λz=>if 0<(Z1 z).getD 0 then a0 (pv (z,(Z1 z).getD 0)) else a7) (by simp[so]) gz ⋯
  (λz hz=>⟨[a0 (.str z),a0 (.ref ls)],by simp[dI],λh4 f=>by
   let⟨m,e⟩:=u z<|pz.mem_iff.mp hz;let ix:=JQ ((x3.trans f) _ _ p) e;let s:(Z1 z).getD 0=m:=by rw[e];rfl
   rw[s];by_cases c:0<m
   ·simp[ix,c,pv]
   ·simp[ix,c]⟩)
 let f:∀zs:yp 0,zs.filterMap (λz=>if 0<(Z1 z).getD 0 then a0 (pv (z,(Z1 z).getD 0)) else a7)=(prs E1 zs).map pv:=λzs=>by
  induction zs with
  |nil=>rfl
  |cons z zs ih=>
   unfold prs at ih⊢;rw[V6,ih,Wx];by_cases c:0<(Z1 z).getD 0 <;> simp[c]
 rw[f]at a;let lP:(prs E1 zs).length<=100:=by unfold prs;rw[wd];have:=UZ (λz=>decide (0<(Z1 z).getD 0)) zs;omega
 let s:4<=tot (prs E1 zs):=by let⟨m,a,b⟩:=E;let hm:(w0,m)∈prs E1 zs:=Fc.mpr ⟨pz.mem_iff.mpr wa,by change m=(Z1 w0).getD 0;rw[a];rfl,by change 0<m;omega⟩;have:=Pe (λp hp=>by have:=(Fc.mp hp).2.2;omega) hm;have:=this;omega
 generalize prs E1 zs=S at a lP s;let f:Ext h3 (h3++[MO.lst<|S.map pv]):=n7 _;let v:(h3++[MO.lst<|S.map pv])[h3.length]?=a0 (.lst<|S.map pv):=aE;generalize h3++[MO.lst<|S.map pv]=h4 at a v f;let b:=x3.trans f;let x:=b _ _ y;let r:GD ⟨(w,N0+1),S,t,A⟩:=⟨lP,s,K⟩;let d:=N.snoc r (by change N0+1=(ZD w).getD 0+1;rw[e]);let P:=dZ (p:=dP ⟨(w,N0+1),S,t,A⟩) x (by simp[mks];omega);rw[show(YM 0++dl).map dP++[dP ⟨(w,N0+1),S,t,A⟩]=(YM 0++(dl++[(⟨(w,N0+1),S,t,A⟩:Dd)])).map dP by simp]at P;let N:(dl++[(⟨(w,N0+1),S,t,A⟩:Dd)]).length=q+1:=by simp[ld]
 let d:=d;generalize dl++[(⟨(w,N0+1),S,t,A⟩:Dd)]=R2 at P N d;let P:γC (.ref h.length) [.tup [.tup [.str w,.int<|N0+1],sv S,.tup<|akP t A]] h4=.ok .non (h4.set h.length<|.lst _):=P;let lE:=Bd (S:=D) (h:=w) (n:=N0+1);simp[iX y,a,Pf v,P];show A5 ⟨R2,_,Ps,lp,(x2.trans b).setN<|wj _,bF x,aQ (b _ _ G) ⋯,aQ (b _ _ o) ⋯,B,d,N,⋯,po,_,_,_,_,_,_,_,rfl⟩
abbrev dE:Ms:=(aG (kC (mMt cF qL (mV 3) (aA (mV 10) (aA (d3 0) aC))) (mV 6) (mV 10))
  (aG (aY 11 (aT (aA (mV 10) (aA (Xj (b7 (mV 6) (mV 10)) (d3 1)) aC))))
  (aG (kC (b7 (mV 11) (d3 1)) (mV 3) (mV 10))
  (aG (aY 7 (aW 4 EO (aA (mV 9) (aA (mV 8) (aA (mV 1) (aA (mV 4) aC))))))
  (aG (bG (aR (W7 (b7 (mV 7) (d3 0)) (mC (.str "write"))))
   (aY 4<|aB aL (mV 4)<|aW 2 kD<|aA (mV 11)<|aA (mV 7) aC)
   bP)
  (iU (δ8 (onL bA) (mV 2) (aA (aT (aA (mV 11) (aA (mCB mO (aA (bB [a7,a0 6] (aV (mCB kU (aA (mV 1) aC))) (gN 0) (aR (aB vGt (b7 (mV 1) (mV 0)) (d3 0))) (aT (aA (mV 0) (aA (b7 (mV 1) (mV 0)) aC)))) aC)) (aA (mV 7) aC)))) aC))))))))
def JR(o:gK A)(h:wdA A="write"):∃u s z,A=.wrt u s z:=by
 let n:∀z∈([("add" : Str),"choose","put","take","cut","mark","clear"]:yp 0),z≠"write" := by decide +kernel
 cases A with
 |make=>exact o.elim
 |num w v=>exact Xk (n w (by rcases o with rfl|rfl|rfl|rfl <;> simp))
 |wrt u s z=>exact⟨u,s,z,rfl⟩
 |ct=>exact Xk (n _<|by simp[wdA])
 |mrk w=>exact Xk (n w (by rcases o with rfl|rfl <;> simp))
def ak0(o:gK A)(t)(h):vIx (.tup<|akP t A) (.int 0) h=.ok (.str<|wdA A) h:=by
 cases A with
 |make=>exact o.elim
 |_=>unfold akP;simp[wdA]
open H in
def RJ(lhs:hs.length<=2)(f7:(w0::hs).Nodup)(hw:w∈w0::hs){q:Nat}{c n:Int}{D E:Seen}{Ps:i_ (Ze 0)}(jw:xs.length=13)(n4:4<=n)(x:tx h')(bh:lh<h.length)(g:h'[h.length]?=a0 (.lst<|(YM 0++dl).map dP))(gm:h'[h.length+1]?=a0 (.dK<|emb D))(gp:h'[lp]?=a0 (.lst<|Ps.map pl))(bp:h.length+1<lp)(bx:h.length+1<lx)(bs:h.length+1<ls)(Z:βu D)(ld:dl.length=q)(hq:q<=60)(lD:D.length<=q+1)(po:Be q Ps)(gx:h'[lx]?=a0 (.lst<|xs.map PV.int))(gh:h'[lh]?=a0 (.lst<|(w0::hs).map PV.str))(gs:h'[ls]?=a0 (.dK<|emb E))(se:SE6 w0 hs n hs.length E)(k:∀δ h',εc (q+1) δ h'->E'.nx δ h'):(dE [a0 (.ref lc),a0 (.ref lh),a0 (.ref h.length),a0<|.ref<|h.length+1,a0 (.ref lp),x5,a0 (.ref ls),x7,a0 (.int c),a0 (.ref lx),a0<|.str w,ax] h').W E':=by
 let⟨s1,s2,s3,s4⟩:=se;rw[VG]at s2;let uh:lx≠ls:=λz=>by rw[z,gs]at gx;cases gx
 let ue:lh≠ls:=⋯;let uz:lp≠ls:=λz=>by rw[z,gs]at gp;cases gp
 unfold dE;rw[aD];let b:=Ca (x:=w) (z:=.int 0) gm;rw[iT]at b;let ev:((ZD w).map PV.int).getD (.int 0)=.int ((ZD w).getD 0):=by cases look D w <;> rfl
 rw[ev]at b;let dw:=Z.nn w;let t9:=Z.h0;obtain⟨N,p⟩:∃N,(ZD w).getD 0=N:=⟨_,rfl⟩;rw[p]at b dw;let hp:iZ (.ref ls) (.str w) (.int N) h'=a0 (h'.set ls<|.dK<|emb<|dput E w N):=by rw[AF gs (by unfold emb;rw[wd];omega),tZ]
 simp[C0 gm,b];refine⟨_,hp,?_⟩;let e0:∃m,look (dput E w N) w0=a0 m/\4<=m:=by
  rw[eU];split
  ·rename_i c0;let⟨m,a,b⟩:=t9;rw[<-c0,a]at p;show⟨_,rfl,by rw[<-p];show b⟩
  ·show⟨n,s1,n4⟩
 let eA:∀z∈w0::hs,∃m,look (dput E w N) z=a0 m:=λz hz=>by
  rw[eU];split
  ·show⟨_,rfl⟩
  ·rcases wu.mp hz with rfl|hz
   ·show⟨n,s1⟩
   ·show s2 z hz
 let eW:look (dput E w N) w=a0 N:=by rw[eU,if_pos rfl]
 let lE:=Bd (S:=E) (h:=w) (n:=N);let d:=bF (o':=MO.dK<|emb<|dput E w N) gs;let x1:tx (h'.set ls<|.dK<|emb<|dput E w N):=x.setN ⋯;let f:∀i o,i≠ls->h'[i]?=a0 o->(h'.set ls<|.dK<|emb<|dput E w N)[i]?=a0 o:=λi o hi e=>aQ e<|zj hi;let g1:=f _ _ ⋯ g;let G:=f _ _ ⋯ gm;let l:=Zn uz gp;let p9:=Zn uh gx;let H:=Zn ue gh;generalize h'.set ls (.dK<|emb<|dput E w N)=h1 at d x1 f g1 G l p9 H;generalize dput E w N=E1 at e0 eA eW lE d;clear f hp b gs g gm gp gx gh s1 s2 s3;refine now ?_;rw[aD];simp[JQ d eW];refine now ?_;rw[aD];let qu:iZ (.ref<|h.length+1) (.str w) (.int<|N+1) h1=a0 (h1.set (h.length+1)<|.dK<|emb<|dput D w<|N+1):=by rw[AF G (by unfold emb;rw[wd];omega),tZ]
 simp;refine⟨_,qu,?_⟩;let r:∀i o,i≠h.length+1->h1[i]?=a0 o->(h1.set (h.length+1)<|.dK<|emb<|dput D w<|N+1)[i]?=a0 o:=λi o hi e=>aQ e<|zj hi;let g2:=r _ _ ⋯ g1;let vq:=bF (o':=MO.dK<|emb<|dput D w<|N+1) G;let j:=r _ _ ⋯ l;let rj:=r _ _ ⋯ p9;let y:=r _ _ ⋯ H;let tj:=r _ _ ⋯ d;refine now ?_;rw[aD];simp;refine Pd jw rj y j po.1 (λp hp=>by have:=po.2.2 p hp;omega) λt A a H O=>now ?_;let g3:=H _ _ g2;let M:=H _ _ vq;let d:=H _ _ j;let v:=H _ _ y;let o9:=H _ _ tj;let xx:=(x1.setN ⋯).trans H;rw[aD,cD]
 by_cases cw:wdA A="write"
 ·let⟨u,s,z,rfl⟩:=JR O.1 cw;let⟨⟨lu,z1,z3,za⟩,mu⟩:=O;let ep:=E6 u s (w,N+1) t z lu z1 z3 a;let P:kD [.tup [.str w,.int<|N+1],.tup<|akP t<|.wrt u s z] a=.ok (.ref a.length) (a++[.lst<|(YY w (N+1) z.length).map pl]):=ep;let x4:Ext a (a++[MO.lst<|(YY w (N+1) z.length).map pl]):=n7 _;let kl:=po.more mu s w (N+1) z3;let vp:=oJ (x4 _ _ d) aE (by rw[wd,wd];have:=kl.2.1;rw[wq]at this;omega);rw[<-zv]at vp;let k0:=ak0 (A:=.wrt u s z) ⟨lu,z1,z3,za⟩ t a;let k0:vIx (.tup<|akP t<|.wrt u s z) (.int 0) a=.ok (.str "write") a:=k0;let bq:h.length+1<(a++[MO.lst<|(YY w (N+1) z.length).map pl]).length:=by have:=(vz.mp M).1;rw[wq];simp;omega
  generalize a++[MO.lst<|(YY w (N+1) z.length).map pl]=hB at P vp x4 bq;let x5:=Ext.app hB [MO.lst<|(Ps++YY w (N+1) z.length).map pl];let gq:(hB++[MO.lst<|(Ps++YY w (N+1) z.length).map pl])[hB.length]?=a0 (.lst<|(Ps++YY w (N+1) z.length).map pl):=aE;generalize hB.length=lq at vp gq bq;generalize hB++[MO.lst<|(Ps++YY w (N+1) z.length).map pl]=hC at vp gq x5;let l:=x4.trans x5;simp[k0,P,vp];show now<|N3 (A:=.wrt u s z) lhs f7 (xx.trans l) bh (l _ _ g3) (l _ _ M) gq bq Z ld hq lD kl (l _ _ v) (l _ _ o9) e0 eA p ⟨lu,z1,z3,za⟩ k
 ·let k0:=ak0 O.1 t a;simp[k0,cw];show now<|N3 lhs f7 xx bh g3 M d bp Z ld hq lD po.up v o9 e0 eA p O.1 k
def JS(h:hs≠[])(i):∃w,atI (hs.map PV.str) (i%(hs.length:Int))=a0 (.str w)/\w∈hs:=Bc _ h i
variable{x6:jh PV}
def JT(B:lh<h.length)(x:tx h')(g:h'[h.length]?=a0 (.lst []))(M:h'[h.length+1]?=a0 (.dK<|emb [(w0,4)]))(U:h'[lp]?=a0 (.lst<|[[⟨1,w0,1000000,0⟩]].map pl))(b:h.length+1<lp)(V:h[lh]?=a0 (.lst<|(w0::hs).map PV.str))(k:∀r h',εc 0 r h'->E'.nx r h'):(dH (mQ<|aA (d3 4) aC) (gN 5) oM [a0 (.ref lc),a0 (.ref lh),a0 (.ref h.length),a0<|.ref<|h.length+1,a0 (.ref lp),x5,x6,x7,x8,x9,aw,ax] h').W E':=by
 let c:∀{h'},tx h'->vIx (.ref lh) (.int 0) h'=.ok (.str w0) h':=λx=>by rw[bE<|x _ _ V,show atI (List.map PV.str (w0::hs)) 0=a0 (.str w0) from bZ (i:=0) (by simp)];rfl
 refine HQ (j:=4) (λq r h'=>tx h'/\h'[h.length]?=a0 (.lst<|((YM 0).take q).map dP)/\h'[h.length+1]?=a0 (.dK<|emb [(w0,4)])/\h'[lp]?=a0 (.lst<|[[⟨1,w0,1000000,0⟩]].map pl)/\∃x5 x6 x7 x8 x9 aw ax,r=[a0 (.ref lc),a0 (.ref lh),a0 (.ref h.length),a0<|.ref<|h.length+1,a0 (.ref lp),x5,x6,x7,x8,x9,aw,ax]) (by simp) ⋯ ⟨x,g,M,U,_,_,_,_,_,_,_,rfl⟩ ?_ ?_
 ·rintro q r H S ⟨o,t,m,G,x5,x6,x7,x8,x9,aw,ax,rfl⟩;let f:∀(d:Dd)(z:PH),(YM 0)[q]?=a0 d->Ext H z->∃Y,γC (.ref h.length) [dP d] z=.ok .non Y/\tx Y/\Y[h.length]?=a0 (.lst<|((YM 0).take<|q+1).map dP)/\Y[h.length+1]?=a0 (.dK<|emb [(w0,4)])/\Y[lp]?=a0 (.lst<|[[⟨1,w0,1000000,0⟩]].map pl):=λd z D X=>by
   let T:(YM 0).take (q+1)=(YM 0).take q++[d]:=by rw[Ve,D];rfl
   let P:=dZ (p:=dP d) (X _ _ t) (by simp[mks];omega);rw[T,zv];show⟨_,P,(o.trans X).setN<|wj _,bF<|X _ _ t,aQ (X _ _ m) ⋯,aQ (X _ _ G) ⋯⟩
  let R:=iX t;let n:=c o;unfold oM;let L:∀(K:Str)(j:Nat)(z:PH),([("count" : Str),"choice","bag","text"])[j]?=a0 K->vIx (.ref z.length) (.int (j:Int)) (z++[MO.lst [.str "count",.str "choice",.str "bag",.str "text"]])=.ok (.str K) (z++[MO.lst [.str "count",.str "choice",.str "bag",.str "text"]]):=λK j z e=>by
   rw[bE (xs:=[.str "count",.str "choice",.str "bag",.str "text"]) aE,show atI ([.str "count",.str "choice",.str "bag",.str "text"]:x_ 0) (j:Int)=a0 (.str K) from bZ (by
    have:([("count" : Str),"choice","bag","text"].map PV.str)[j]?=a0 (.str K):=by rw[xf,e];rfl
    show this)]
   rfl
  let X:Ext H (H++[MO.lst [.str "count",.str "choice",.str "bag",.str "text"]]):=n7 _;let I:=c<|o.trans X;let Z:=iX<|X _ _ t;let Q:q=0\/q=1\/q=2\/q=3:=⋯;rw[aD];rcases Q with rfl|rfl|rfl|rfl
  ·let⟨Y,A,y,w,v,u⟩:=Zn rfl X;let l:vIx (.ref H.length) (.int 0) (H++[MO.lst [.str "count",.str "choice",.str "bag",.str "text"]])=.ok (.str "count") _:=L "count" 0 H rfl;let s:vSl (.tup [.tup [.str w0,.int 0]]) a7 (a0 0) H=.ok (.tup []) H:=rfl;simp[n,s];refine now ?_;rw[aD];simp[l];refine now ?_;generalize H++[MO.lst [.str "count",.str "choice",.str "bag",.str "text"]]=z at A Z I;let a:γC (.ref h.length) [.tup [.tup [.str w0,.int 1],.tup [],.tup [.str "make",.str "count",.tup [.str "",.int 0],.str "k"]]] z=.ok .non Y:=A;simp[Z,I,a];show⟨y,w,v,u⟩
  ·let⟨Y,A,y,w,v,u⟩:=Zn rfl X;let l:vIx (.ref H.length) (.int 1) (H++[MO.lst [.str "count",.str "choice",.str "bag",.str "text"]])=.ok (.str "choice") _:=L "choice" 1 H rfl;let s:vSl (.tup [.tup [.str w0,.int 1]]) a7 (a0 1) H=.ok (.tup [.tup [.str w0,.int 1]]) H:=rfl;simp[n,s];refine now ?_;rw[aD];simp[l];refine now ?_;generalize H++[MO.lst [.str "count",.str "choice",.str "bag",.str "text"]]=z at A Z I;let a:γC (.ref h.length) [.tup [.tup [.str w0,.int 2],.tup [.tup [.str w0,.int 1]],.tup [.str "make",.str "choice",.tup [.str "",.int 0],.str "k"]]] z=.ok .non Y:=A;simp[Z,I,a];show⟨y,w,v,u⟩
  ·let⟨Y,A,y,w,v,u⟩:=Zn rfl X;let l:vIx (.ref H.length) (.int 2) (H++[MO.lst [.str "count",.str "choice",.str "bag",.str "text"]])=.ok (.str "bag") _:=L "bag" 2 H rfl;let s:vSl (.tup [.tup [.str w0,.int 2]]) a7 (a0 2) H=.ok (.tup [.tup [.str w0,.int 2]]) H:=rfl;simp[n,s];refine now ?_;rw[aD];simp[l];refine now ?_;generalize H++[MO.lst [.str "count",.str "choice",.str "bag",.str "text"]]=z at A Z I;let a:γC (.ref h.length) [.tup [.tup [.str w0,.int 3],.tup [.tup [.str w0,.int 2]],.tup [.str "make",.str "bag",.tup [.str "",.int 0],.str "k"]]] z=.ok .non Y:=A;simp[Z,I,a];show⟨y,w,v,u⟩
  ·let⟨Y,A,y,w,v,u⟩:=Zn rfl X;let l:vIx (.ref H.length) (.int 3) (H++[MO.lst [.str "count",.str "choice",.str "bag",.str "text"]])=.ok (.str "text") _:=L "text" 3 H rfl;let s:vSl (.tup [.tup [.str w0,.int 3]]) a7 (a0 3) H=.ok (.tup [.tup [.str w0,.int 3]]) H:=rfl;simp[n,s];refine now ?_;rw[aD];simp[l];refine now ?_;generalize H++[MO.lst [.str "count",.str "choice",.str "bag",.str "text"]]=z at A Z I;let a:γC (.ref h.length) [.tup [.tup [.str w0,.int 4],.tup [.tup [.str w0,.int 3]],.tup [.str "make",.str "text",.tup [.str "",.int 0],.str "k"]]] z=.ok .non Y:=A;simp[Z,I,a];show⟨y,w,v,u⟩
 ·rintro r H ⟨o,t,m,G,x5,x6,x7,x8,x9,aw,ax,rfl⟩;show A5 ⟨[],[(w0,4)],[[⟨1,w0,1000000,0⟩]],lp,o,by simpa[mks] using t,m,G,b,DN.start w0,rfl,by simp,⟨by simp,by simp,by simp⟩,_,_,_,_,_,_,_,rfl⟩
def JU(s:Zg 0)(qd:s.length<=40)(E:Str)(hs:yp 0)(lhs:hs.length<=2)(f7:(E::hs).Nodup)(lc l:Nat)(h:PH)(gc:h[lc]?=a0 (.lst<|s.map PV.int))(G:h[l]?=a0 (.lst<|(E::hs).map PV.str))(Q:PV->PH->Prop)
  (k:∀d D l H,tx H->H[l]?=a0 (.lst<|(mks E++d).map dP)->DN E d D->d.length=s.length->Q (.ref l) H):(AV [.ref lc,.ref l] h).W Q:=by
 let bc:=(vz.mp gc).1;let bh:=(vz.mp G).1;let ih:∀{H},tx H->vIx (.ref l) (.int 0) H=.ok (.str E) H:=λx=>by rw[bE<|x _ _ G,show atI (List.map PV.str (E::hs)) 0=a0 (.str E) from bZ (i:=0) (by simp)];rfl
 refine W_fn ?_;unfold AU;rw[aD];let xA:tx (h++[MO.lst []]):=n7 _;let gA:(h++[MO.lst []])[h.length]?=a0 (.lst []):=aE;let lA:(h++[MO.lst []]).length=h.length+1:=by simp
 simp;generalize h++[MO.lst []]=hA at xA gA lA;refine now ?_;rw[aD];let xB:Ext hA (hA++[MO.dK []]):=n7 _;let gB:(hA++[MO.dK []])[h.length+1]?=a0 (.dK []):=by rw[<-lA];show aE
 let lB:(hA++[MO.dK []]).length=h.length+2:=by rw[wq,lA];rfl
 simp;rw[lA];generalize hA++[MO.dK []]=hB at xB gB lB;let oy:=xA.trans xB;let pd:=EK (z:=E) (y:=.int 4) gB (by simp);let gC:(hB.set (h.length+1)<|.dK<|cL [] (UL E)<|.int 4)[h.length+1]?=a0 (.dK<|emb [(E,4)]):=bF gB;let xC:tx (hB.set (h.length+1)<|.dK<|cL [] (UL E)<|.int 4):=oy.setN ⋯;let gR:(hB.set (h.length+1)<|.dK<|cL [] (UL E)<|.int 4)[h.length]?=a0 (.lst []):=aQ (xB _ _ gA) ⋯;let lC:(hB.set (h.length+1)<|.dK<|cL [] (UL E)<|.int 4).length=h.length+2:=by rw[yo];show lB
 generalize hB.set (h.length+1) (.dK<|cL [] (UL E)<|.int 4)=hC at pd gC xC gR lC;simp[ih oy,pd];refine now ?_;rw[aD];let xD:Ext hC (hC++[MO.lst<|[[⟨1,E,1000000,0⟩]].map pl]):=n7 _;let gD:(hC++[MO.lst<|[[⟨1,E,1000000,0⟩]].map pl])[h.length+2]?=a0 (.lst<|[[⟨1,E,1000000,0⟩]].map pl):=by rw[<-lC];show aE
 let eD:hC++[MO.lst [.tup [.tup [.int 1,.str E,.int 1000000,.int 0]]]]=hC++[MO.lst<|[[⟨1,E,1000000,0⟩]].map pl]:=rfl;simp[ih xC];rw[lC,eD];generalize hC++[MO.lst<|[[⟨1,E,1000000,0⟩]].map pl]=hD at xD gD;let qw:=xC.trans xD;refine now ?_;rw[aD];refine JT (lp:=h.length+2) bh qw (xD _ _ gR) (xD _ _ gC) gD ⋯ G λδ hE dj=>now ?_;rw[aD];let⟨dl0,D0,Ps0,lp0,dx,_,_,_,_,_,_,_,_,y5,y6,y7,y8,y9,y10,y11,eδ⟩:=id dj;refine rF (n:=lc) (xs:=s.map PV.int) (h1:=hE) (DJ E lc l h) (by rw[eδ];simp) (dx _ _ gc) dj ?_ ?_ ?_
 ·rintro q δ H hq ⟨d,D,Ps,lp,x,_⟩;show XW gc
 ·rintro q y δ H hy ⟨d,D,Ps,lp,x,g,m,p,bp,N,ld,lD,po,x5,x6,x7,x8,x9,aw,ax,rfl⟩;let hq:q<s.length:=by have:=(vz.mp hy).1;simpa using this
  rw[xf]at hy;let⟨c,hc,rfl⟩:=xv.mp hy;refine⟨_,rfl,?_⟩;rw[show rP=aG (aY 9<|aW 2 nB<|aA (mV 8)<|aA (d3 13) aC) (aG (aY 10<|aB vAt (mV 1)<|aB cK (b7 (mV 9)<|d3 0)<|mCB kR<|aA (mV 1) aC)<|aG (aY 6<|rN (b7 (mV 1)<|d3 0) _)<|aG (dH (qG<|aA (d3 1)<|aA (βt<|aA (mV 1) aC) aC) (gN 5) kE) dE) from rfl]
  rw[aD];simp;refine zJ c 13 ⋯ H _ λxs lx S xS bxl u jw bx=>?_
  try simp
  let xx:=x.trans xS;let v:=xx _ _ G;let vo:=(vz.mp u).1;let bm0:=(vz.mp m).1;let i0:vIx (.ref lx) (.int 0) S=.ok (.int xs[0]) S:=by
   have:=nS (xs:=xs) (i:=0) ⋯;rw[bE u,show atI (xs.map PV.int) 0=a0 (.int xs[0]) from this]
   rfl
  generalize xs[0]=v0 at i0;let⟨w,ew,hw⟩:=JS (hs:=E::hs) (by simp) v0;let ep:vIx (.ref l) (.int<|v0%((E::hs).length:Int)) S=.ok (.str w) S:=by rw[bE v,ew];rfl
  let ll:kR [.ref l] S=.ok (.int ((E::hs).length:Int)) S:=by
   have:=vC v
   rwa[wd]at this
  let kr:(0:Int)<((E::hs).length:Int):=by rw[yw];omega
  refine now ?_;rw[aD];generalize ((E::hs).length:Int)=lw at ep ll kr;simp(disch:=omega) [i0,ll,ep];refine now ?_;rw[aD];let y:Ext S (S++[MO.dK []]):=n7 _;let T:(S++[MO.dK []])[S.length]?=a0 (.dK []):=aE;let bS:=xS.len;simp;generalize hlS:S.length=ls at T vo bS;generalize S++[MO.dK []]=hT at y T;let⟨q,tm,n02⟩:=N.h0;let oi:vIx (.ref lx) (.int 10) hT=.ok (.int xs[10]) hT:=by
   have:=nS (xs:=xs) (i:=10) ⋯;rw[bE<|y _ _ u,show atI (xs.map PV.int) 10=a0 (.int xs[10]) from this]
   rfl
  generalize xs[10]=v5 at oi;let im:=JQ ((xS.trans y) _ _ m) tm;let m5:=WL v5 (b:=q-3) ⋯;let pd:=EK (z:=E) (y:=.int<|4+v5%(q-3)) T (by simp);let gE:(hT.set ls<|.dK<|cL [] (UL E)<|.int<|4+v5%(q-3))[ls]?=a0 (.dK<|emb [(E,4+v5%(q-3))]):=bF T;let r:∀i o,i≠ls->hT[i]?=a0 o->(hT.set ls<|.dK<|cL [] (UL E)<|.int<|4+v5%(q-3))[i]?=a0 o:=λi o hi e=>aQ e<|zj hi;generalize hT.set ls (.dK<|cL [] (UL E)<|.int<|4+v5%(q-3))=hU at pd gE r;simp(disch:=omega) [ih<|xx.trans y,oi,im,pd];refine now ?_;rw[aD];let w:=xS.trans y;let c:∀{i:Nat}{o},H[i]?=a0 o->i≠ls:=λe=>by have:=(X2 0).1;omega
  let bh':h.length<=H.length:=x.len;let X:=r _ _ ⋯ (y _ _ u);let U:=r _ _ (c<|x _ _ G)<|w _ _<|x _ _ G;let M:=r _ _ (c m)<|w _ _ m;let gU:=r _ _ (c g)<|w _ _ g;let uu:=r _ _ (c p)<|w _ _ p;refine Mq f7 lhs N.nn jw bx ⋯ X U M gE ⋯ (c<|x _ _ G) (c m) λE x5' hV se f gV=>?_;refine now ?_;let xV:tx hV:=λi o e=>f i o (c<|x _ _ e)<|r i o (c<|x _ _ e)<|w _ _<|x _ _ e;show RJ lhs f7 hw jw ⋯ xV bh (Zn (c g) gU) (Zn (c m) M) (Zn (c p) uu) bp ⋯ ⋯ N ld ⋯ lD po (f _ _ ⋯ X) (Zn (c<|x _ _ G) U) gV se λδ h2 z=>z
 ·rintro δ H ⟨d,D,Ps,lp,x,g,m,p,bp,N,ld,lD,po,x5,x6,x7,x8,x9,aw,ax,rfl⟩;refine now ?_;simp;show k d D _ H x g N (by rw[ld,wd])
def JV{a b:Dd}(h:1+tot a.seen<1+tot b.seen):cJ (kyL b) (kyL a)=false:=by
 let n:¬ tot b.seen=tot a.seen:=⋯;simp[kyL,cJ,keyLt,n];omega
variable{os:i_ Dd}
def CL{D:Seen}(n:βu D)(w:(os.map (·.nm)).Nodup)(x:∀d,d∈os↔d∈YM 0++dl)(r:iS os):∃c,os=YM 0++c/\∀d∈c,d∈dl:=by
 let A:=B5 n.nd;refine⟨os.filter λd=>!decide (d.nm∈(YM 0).map (·.nm)),?_,λd y=>?_⟩
 ·let st:∀d∈os.filter (λd=>!decide (d.nm∈(YM 0).map _)),4<=tot _:=λd y=>by
   let⟨w,H⟩:=Uk.mp y;rcases wg.mp ((x d).mp w) with z|z
   ·have:d.nm∈(YM 0).map _:=wo.mpr ⟨d,z,rfl⟩;rw[decide_eq_true this]at H;cases H
   ·show(n.ok d z).st
  let sm:∀d∈mks w0,tot d.seen<4:=λd y=>by simp[mks]at y;rcases y with rfl|rfl|rfl|rfl <;> simp[tot]
  let nm:((YM 0).map (·.nm)).Nodup:=by have:=n.nd;show(Vg.mp this).1
  refine Cz r (w8.mpr ⟨?_,List.Pairwise.sublist WA r,λa A b B=>JV (by have:=st b B;have:=sm a A;omega)⟩) w ?_ (λd y e E z=>A d ((x d).mp y) e ((x e).mp E) z) λd=>?_
  ·let l:∀{a b:Dd},tot a.seen<tot b.seen->cJ (kyL b) (kyL a)=false:=λh=>JV ⋯;simp only[mks,zb,wu,TZ,or_false];refine⟨λa h=>?_,λa h=>?_,λa h=>?_,λa h=>h.elim,UT⟩
   ·rcases h with rfl|rfl|rfl <;> exact l (by simp[tot])
   ·rcases h with rfl|rfl <;> exact l (by simp[tot])
   ·rw[h];show l (by simp[tot])
  ·rw[zv,Vg];refine⟨nm,List.Sublist.nodup (βq WA) w,λa A b B z=>?_⟩;let⟨x,hx,rfl⟩:=wo.mp B;let H:=(Uk.mp hx).2;rw[decide_eq_true<|z▸A]at H;cases H
  ·rw[wg,Uk];constructor
   ·intro h;by_cases c:d.nm∈(YM 0).map (·.nm)
    ·let⟨e,E,z⟩:=wo.mp c;have:=A e (xr _ E) d ((x d).mp h) z;show .inl<|this▸E
    ·show .inr ⟨h,by simp[c]⟩
   ·rintro(h|h)
    ·show(x d).mpr (xr _ h)
    ·show h.1
 ·let⟨w,H⟩:=Uk.mp y;rcases wg.mp ((x d).mp w) with z|z
  ·have:d.nm∈(YM 0).map _:=wo.mpr ⟨d,z,rfl⟩;rw[decide_eq_true this]at H;cases H
  ·show z
abbrev E0(w0:Str):i_ En:=[mkE (w0,1) "count",mkE (w0,2) "choice",mkE (w0,3) "bag",mkE (w0,4) "text"]
abbrev bN(nm:Nm)(k:Str)(L:Lf)(d:Dd):Lf:=if nm=d.th/\k=jT d.ak then fK d L else L
open H in
def run_map:∀(s)(E),(∀d∈s,γO 0)->oA E s=E.map λe=>{ e with lf:=e.lf.map λL=>s.foldl (bN e.nm e.kd) L}
 |[],E,_=>by
  conv=>lhs;rw[<-List.map_id E]
  refine y1 λe _=>?_
  change e={ e with lf:=e.lf.map λL=>L}
  cases e with|mk a b c d l=>cases l <;> rfl
 |d::s,E,h=>by
  let H:=h d wa;let z:qT E d=upE E d:=by
   unfold qT;split
   ·rename_i k e;rw[e]at H;show H.elim
   ·rfl
  change oA _ s=_
  rw[z,run_map s _ λx X=>h x<|wb _ X];unfold upE;rw[yg];refine y1 λe _=>?_
  change({ upD d e with lf:=(upD d e).lf.map λL=>s.foldl _ L}:En)={ e with lf:=e.lf.map λL=>(d::s).foldl _ L}
  rw[gO.1,gO.2.1];unfold upD;split
  ·rename_i c;cases e with|mk a b cc dd l=>
   cases l with
   |none=>rfl
   |some L=>simp only[Option.map_some,VB];rw[show bN a b L d=fK d L from if_pos c]
  ·rename_i c;cases e with|mk a b cc dd l=>
   cases l with
   |none=>rfl
   |some L=>simp only[Option.map_some,VB];rw[show bN a b L d=L from if_neg c]
variable{cm:i_ Dd}
open H in
def JW{D:Seen}(dn:βu D)(ok:∀d∈cm,d∈dl):∀(q)(d),(YM 0++cm)[q]?=a0 d->nY (oA []<|(YM 0++cm).take q) d:=by
 intro q d k;by_cases c:q<4
 ·let q4:q=0\/q=1\/q=2\/q=3:=⋯;rcases q4 with rfl|rfl|rfl|rfl <;> (cases k;simp[nY,mks,oA,qT,tE,fnd,mkE])
 ·rw[wz (by simp[mks];omega)]at k;let c:=(dn.ok d<|ok d<|ye k).ok;unfold nY;split
  ·rename_i k e;rw[e]at c;show c.elim
  ·show c
def JX(o:∀d∈cm,γO 0):oA [] (YM 0++cm)=(E0 w0).map λe=>{ e with lf:=e.lf.map λL=>cm.foldl (bN e.nm e.kd) L}:=by have:oA [] (YM 0++cm)=oA (E0 w0) cm:=rfl;rw[this,run_map cm _ o]
def Mr(o:∀d∈cm,γO 0):Srt (oA []<|mks w0++cm):=by
 rw[JX o];let k:∀i j,i<j->cJ (rV ((w0,j):Nm)) (rV ((w0,i):Nm))=false:=λi j h=>by simp[rV,cJ,keyLt,⋯];omega
 unfold Srt;rw[Ud];simp only[E0,zb,wu,TZ,or_false];refine⟨λa h=>?_,λa h=>?_,λa h=>?_,λa h=>h.elim,UT⟩
 ·rcases h with rfl|rfl|rfl <;> exact A5 (by decide)
 ·rcases h with rfl|rfl <;> exact A5 (by decide)
 ·rw[h];show A5 (by decide)
def hZ{f:PV->PV->Bool}:∀{xs:x_ 0},(∀x∈xs,f x x=true)->γD xs=true
 |[],_=>rfl
 |x::xs,h=>by unfold kW;rw[h x wa,hZ λy H=>h y (YI H)];rfl
def jE:∀{n:Nat}{p:PV},p.pl n=true->δZ n p p=true:=by
 intro n
 induction n with
 |zero=>
  intro p H;cases p with
  |non=>rfl
  |int i=>exact decide_eq_true rfl
  |str i=>exact decide_eq_true rfl
  |_=>cases H
 |succ n I=>
  intro p H;cases p with
  |non=>rfl
  |int i=>exact decide_eq_true rfl
  |str i=>exact decide_eq_true rfl
  |tup s=>exact hZ λx X=>I (xi.mp (H) x X)
  |_=>cases H
def Fd{f:PV->PV->Bool}:∀{xs ys:x_ 0},xs.length=ys.length->(∀(i:Nat) x y,xs[i]?=a0 x->ys[i]?=a0 y->f x y=true)->γD ys=true
 |[],[],_,_=>rfl
 |x::xs,y::ys,l,h=>by unfold kW;rw[h 0 x y rfl rfl,Fd (Nat.succ.inj l) λi u v H z=>h (i+1) u v H z];rfl
 |[],_::_,l,_=>by cases l
 |_::_,[],l,_=>by cases l
def oB{xs ys:x_ 0}(g1:h[r]?=a0 (.lst xs))(g2:h[s]?=a0 (.lst ys))(e:kW (δZ n) xs ys=true):δZ (n+1) (.ref r) (.ref s)=true:=by
 change lkL (δZ n) (Xr r) (Xr s)=true
 rw[show Xr r=a0 xs by simp[aH,g1],show Xr s=a0 ys by simp[aH,g2]];show e
def JY{p:Nm×Int}:(rw2 p).pl (n+2)=true:=by unfold rw2 pv;simp[PV.pl]
def Mt{p:Ze 0}:(pl p).pl (n+2)=true:=by
 change(p.map stp).all (PV.pl _)=true
 rw[List.all_map];show xi.mpr λy _=>by simp[stp,PV.pl]
def Tt{p:Nm}:(pv p).pl (n+1)=true:=by cases n <;> rfl
variable{ws:x_ 0}
def Mu{a b:Nat}(c:MrR a h M vs)(C:MrR b h M ws):kW (δZ<|n+6) vs ws=true:=by
 refine Fd (c.1.trans C.1.symm) λi x y H Y=>?_;let⟨m,u,E,rfl,_,g⟩:=c.2 i x H;let⟨o,v,e,rfl,_,G⟩:=C.2 i y Y;rw[E]at e;cases e
 let q:δZ (n+5) _ _=true:=oB g G (hZ λz Z=>by
  let⟨p,_,rfl⟩:=wo.mp Z;refine jE ?_
  change([pl p.1,pl p.2]).all (PV.pl _)=true
  simp[Mt])
 change kW (δZ<|n+5) [pv m.nm,pl m.f,pl m.l,.str m.w,.ref u] [pv m.nm,pl m.f,pl m.l,.str m.w,.ref v]=true
 let A:δZ (n+5) (pv m.nm) _=true:=jE Tt;let t:δZ (n+5) (pl m.f) _=true:=jE Mt;let s:δZ (n+5) (pl m.l) _=true:=jE Mt;let r:δZ (n+5) (.str m.w) _=true:=jE rfl;simp[kW,A,t,s,r,q,Bool.and_self]
def Pg{q:Nat}{v w:PV}(l:LB q L)(C:tJ r h L v)(z:tJ s h L w):AK v w h=.ok (.bl false) h:=by
 cases L with
 |cnt i=>cases C;cases z;show J1
 |cho q=>let⟨a,rfl,_,g⟩:=C;let⟨b,rfl,_,G⟩:=z;show AL rfl (oB g G (hZ λx H=>by let⟨p,_,rfl⟩:=wo.mp H;show jE JY))
 |bag q=>let⟨a,rfl,_,g⟩:=C;let⟨b,rfl,_,G⟩:=z;show AL rfl (oB g G (hZ λx H=>by let⟨p,_,rfl⟩:=wo.mp H;show jE JY))
 |txt R M=>
  let⟨a,b,j,V,rfl,_,_,g,P,m,G,o⟩:=C;let⟨c,d,S,W,rfl,_,_,y,t,k,u,O⟩:=z;let e:=m.uniq k (P.trans t.symm)<|(P.map _).nodup_iff.mpr l.2.2.1;subst e;refine AL rfl ?_
  change kW (δZ 189) [.ref a,.ref b] [.ref c,.ref d]=true
  unfold kW kW kW;rw[oB g y (hZ λx H=>by
   let⟨p,_,rfl⟩:=wo.mp H;refine jE ?_
   change([pl p.1,PV.str ⟨#[p.2]⟩]).all _=true
   simp[Mt,PV.pl]),oB (n:=188) G u (Mu o O)]
  rfl
variable{ys:yp 0}
def JZ(e:h[n]?=a0 (.lst<|ys.map PV.str)):cX (.str x) (.ref n) h=.ok (.bl<|decide (x∈ys)) h:=by
 let H:mT (.str x) (.ref n) h=a7:=by simp[PV.isKt,e]
 let Y:(ys.map PV.str).all (PV.ky 6)=true:=by rw[List.all_map];show xi.mpr λy _=>rfl
 let m:decide (PV.str x∈ys.map PV.str)=decide (x∈ys):=by simp
 let X:(PV.str x).ky 6=true:=rfl;unfold cX wC;rw[H];simp only[inU,G0,aH,e,X,Y,if_true,ofB,m,and_self]
abbrev wordsOf(k:Str):yp 0:=if k="count" then["add"] else if k="choice" then["choose"] else if k="bag" then["put","take"] else["write","cut","mark","clear"]
def K0(k)(h):m_words [.str k] h=.ok (.ref h.length) (h++[.lst<|(εd 0).map PV.str]):=by
 let w:(m_words [.str k] h).W λp H=>p=.ref h.length/\H=h++[.lst<|(εd 0).map PV.str]:=by
  refine W_fn ?_;unfold B0 wordsOf;rw[aD];by_cases c:k="count"
  ·simp[c]
  ·simp[c];refine now ?_;rw[aD];by_cases C:k="choice"
   ·simp[C]
   ·simp[C];refine now ?_;rw[aD];by_cases z:k="bag"
    ·simp[z]
    ·simp[z];refine now ?_;simp
 let⟨p,H,e,rfl,rfl⟩:=gQ w;show e
def Fe(o:gK A){k:Str}(h:k="count" \/ k="choice" \/ k="bag" \/ k="text"):decide (wdA A∈εd 0)=decide (k=jT A):=by
 let n:∀k∈([("count" : Str),"choice","bag","text"]:yp 0),(∀z∈([("add" : Str),"choose","put","take"]:yp 0),decide (z∈εd 0)=decide (k=(if z="add" then("count" : Str) else if z="choose" then "choice" else "bag")))/\∀z∈([("write" : Str),"cut","mark","clear"]:yp 0),decide (z∈εd 0)=decide (k="text"):=by decide +kernel
 let⟨y,N⟩:=n k<|cA h;cases A with
 |make=>exact o.elim
 |num w v=>exact y w (by rcases o with rfl|rfl|rfl|rfl <;> simp)
 |wrt=>exact N _ (by simp[wdA])
 |ct=>exact N _ (by simp[wdA])
 |mrk w=>exact N w (by rcases o with rfl|rfl <;> simp)
def K1{k:Str}(h:k="count" \/ k="choice" \/ k="bag" \/ k="text"):("make" : Str)∉εd 0/\k≠"make" := by
 let n:∀k∈([("count" : Str),"choice","bag","text"]:yp 0),("make" : Str)∉εd 0/\k≠"make" := by decide +kernel
 show n k<|cA h
variable{nm:Nm}
def Ff{k:Str}{d:Dd}:kdL (YF k L d)=kdL L:=by
 unfold bN;split
 ·show N1
 ·rfl
def CM{nm:Nm}{k:Str}:∀(s:i_ Dd)(L),kdL (s.foldl (YF k) L)=kdL L
 |[],L=>rfl
 |d::s,L=>by rw[VB,CM s,Ff]
open H in
def LB.step{q:Nat}{d:Dd}(b:LB q L)(o:d.ak=d.ak->(∃k,d.ak=.make k)\/γO 0):LB (q+1) (YF (kdL L) L d):=by
 unfold bN;split
 ·rename_i c;rcases o rfl with⟨k,e⟩|o
  ·rw[e]at c;have:∀L,kdL L≠"make" := λL=>by
    let n:∀z∈([("count" : Str),"choice","bag","text"]:yp 0),z≠"make" := by decide +kernel
    show n _ (by cases L <;> simp[kdL])
   show absurd c.2<|this L
  ·show b.op (JG o c.2)
 ·show b.up
def LB.steps:∀(s:i_ Dd)(q)(L),LB q L->(∀d∈s,(∃k,d.ak=.make k)\/γO 0)->LB (q+s.length) (s.foldl (YF<|kdL L) L)
 |[],q,L,b,_=>b
 |d::s,q,L,b,h=>by let B:LB _ (YF _ L d):=b.step λ_=>h d wa;have:=LB.steps s _ _ B λx H=>h x (YI H);rw[Ff]at this;rw[yw,show q+(s.length+1)=q+1+s.length by omega];show this
def Ph{d:Dd}(o:(∃k,d.ak=.make k)\/γO 0):vIx (.tup d.act) (.int 0) h=.ok (.str<|wdA d.ak) h:=by unfold Dd.act;cases d.ak <;> (unfold akP;simp[wdA])
def RK{d:Dd}(o:γO 0):vIx (.tup d.act) (.int 1) h=.ok (βN 0) h:=by
 unfold Dd.act;cases e:d.ak with
 |make=>rw[e]at o;show o.elim
 |_=>unfold akP;simp
abbrev OI(nm:Nm)(kd:Str)(L0:Lf)(os:i_ Dd)(h:PH)(B l:Nat)(cl:v_ 0)(x0 x1 x2 x3 x4 x5 x6 x9 aw ax:jh PV)(q:Nat)(δ:Ev)(h':PH):Prop:=
 ∃gb cz,(nW h' gb ((os.take q).foldl (YF kd) L0)/\LB q ((os.take q).foldl (YF kd) L0))/\gb.headD 0=cl.headD 0/\(∀i∈gb,B<=i/\i≠l)/\(∀(i:Nat) o,i<B\/i=l->h[i]?=a0 o->h'[i]?=a0 o)/\h.length<=h'.length/\δ=[x0,x1,x2,x3,x4,x5,x6,a0<|pv nm,a0<|.str kd,x9,aw,ax,a0<|.ref<|cl.headD 0,cz]
variable{L0:Lf}{cz x0 x1 x2 x4:jh PV}{h0:PH}{kd:Str}
def Pi(hk:kd="count" \/ kd="choice" \/ kd="bag" \/ kd="text")(ek:kdL L0=kd)(b0:LB 0 L0)(og:∀d∈os,(∃k,d.ak=.make k)\/γO 0)(lo:os.length<=60){B:Nat}(la:γN L0)(k8:∀i∈cl,B<=i/\i≠l)(gl:h[l]?=a0 (.lst<|os.map dP))(hB:B<=h.length){m:Me}{x3:jh PV}(eδ:δ=[x0,x1,x2,x3,x4,x5,x6,a0<|pv nm,a0<|.str kd,x9,aw,ax,a0<|.ref<|cl.headD 0,cz])(em:Xn h0=.ok (.ref l) h){E:FE}(k:∀h' C cz,nW h' C (os.foldl (YF kd) L0)->C.headD 0=cl.headD 0->(∀(i:Nat) o,i<B->h[i]?=a0 o->h'[i]?=a0 o)->h.length<=h'.length->E.nx [x0,x1,x2,x3,x4,x5,x6,a0<|pv nm,a0<|.str kd,x9,aw,ax,a0<|.ref<|cl.headD 0,cz] h'):(dH (aV m) (gN 13) tW δ h0).W E:=by
 subst eδ;let⟨mo,uf⟩:=K1 hk;refine rF (n:=l) (h1:=h) (W8 ax) em gl ⟨cl,cz,⟨la,b0⟩,rfl,k8,λ_ _ _ e=>e,wj _,rfl⟩ ?_ ?_ ?_
 ·rintro q δ h' _ ⟨C,A,_,_,_,kp,_⟩;show kp _ _ (.inr rfl) gl
 ·rintro q y δ h' hy ⟨C,A,⟨H,lb'⟩,hd',far',kp,ln,rfl⟩;rw[xf]at hy;let⟨d,hd,rfl⟩:=xv.mp hy;let hq:=(vz.mp hd).1;let y:=og d<|ye hd;let ht:(os.take<|q+1).foldl (YF kd) L0=YF kd ((os.take q).foldl (YF kd) L0) d:=by rw[Ve,hd,List.foldl_append];rfl
  let m7:kdL ((os.take q).foldl (YF kd) L0)=kd:=(CM _ _).trans ek;refine⟨_,rfl,?_⟩;generalize (os.take q).foldl (YF kd) L0=L at H lb' m7 ht;unfold tW;let wk:=K0 kd h';let xw:Ext h' (h'++[MO.lst<|(wordsOf kd).map PV.str]):=n7 _;let gw:(h'++[MO.lst<|(wordsOf kd).map PV.str])[h'.length]?=a0 (.lst _):=aE;let hv:=JZ (x:=wdA d.ak) gw;generalize h'++[MO.lst _]=hw at wk xw gw hv;let nh:=H.keep (h':=hw) λi _ o e=>xw _ _ e;let bl:=(vz.mp gl).1;let fin:∀(hN:PH)(N:v_ 0),nW hN N (YF kd L d)->N.headD 0=C.headD 0->(∀i∈N,i∈C\/hw.length<=i)->(∀(i:Nat) o,i∉C->hw[i]?=a0 o->hN[i]?=a0 o)->hw.length<=hN.length->W8 ax (q+1) [x0,x1,x2,x3,x4,x5,x6,a0<|pv nm,a0<|.str kd,x9,aw,ax,a0 _,a0<|dP d] hN:=λhN N A a v u t=>
   ⟨N,a0 (dP d),by rw[ht];show⟨A,(by have:=lb'.step (nm:=nm) λ_=>y;rwa[m7]at this)⟩,a.trans hd',λi hi=>by
    rcases v i hi with z|z
    ·show far' i z
    ·have:=xw.len;omega,λi o hi e=>u i o (λz=>by have:=far' i z;omega) (xw _ _ (kp i o hi e)),yd ln (yd xw.len t),rfl⟩
  let same:YF kd L d=L->W8 ax (q+1) [x0,x1,x2,x3,x4,x5,x6,a0<|pv nm,a0<|.str kd,x9,aw,ax,a0<|.ref<|cl.headD 0,a0<|dP d] hw:=λe=>fin hw C (e.symm▸nh) rfl (λi hi=>.inl hi) (λ_ _ _ e=>e)<|wj _;rw[cD];by_cases c:nm=d.th/\kd=jT d.ak
  ·let ok:γO 0:=y.resolve_left λ⟨z,e⟩=>uf (by rw[e]at c;show c.2);let w1:decide (wdA d.ak∈wordsOf kd)=true:=by rw[Fe ok hk];show decide_eq_true c.2
   rw[w1]at hv;let pe:bK (βN 0) (pv nm) hw=.ok (.bl true) hw:=by rw[Jz,decide_eq_true c.1.symm]
   simp[dP2,Ph y,RK ok,wk,hv,pe,mM,-U0];rw[<-hd'];refine zP nh lb' ⋯ (JG ok<|m7.trans c.2) ?_ λh2 H=>?_
   ·simp
   ·let⟨N,A,a,v,u,t⟩:=H;rw[hd'];show fin h2 N (by rw[show YF kd L d=fK d L from if_pos c];show a) (by let z:=a.head;rw[u,nh.head]at z;show(yi z).symm) v A t
  ·let e1:YF kd L d=L:=YC 0;let sm:=same e1;by_cases w:wdA d.ak∈wordsOf kd
   ·let ok:γO 0:=y.resolve_left λ⟨z,e⟩=>mo (by rw[e]at w;show w);let w2:=Fe ok hk;rw[decide_eq_true w]at w2;let pe:bK (βN 0) (pv nm) hw=.ok (.bl false) hw:=by rw[Jz,decide_eq_false λz=>c ⟨z.symm,(of_decide_eq_true w2.symm)⟩]
    simp[dP2,Ph y,RK ok,wk,hv,pe,-U0];show sm
   ·rw[decide_eq_false w]at hv;simp[dP2,Ph y,wk,hv,-U0];show sm
 ·rintro δ h' ⟨C,A,⟨H,lb'⟩,hd',far',kp,ln,rfl⟩;rw[wd,VG]at H;show k h' C A H hd' (λi o hi e=>kp i o (.inl hi) e) ln
variable{fu:jh PV}
def Pj(R:kd="count" \/ kd="choice" \/ kd="bag" \/ kd="text")(q:lf0 kd=a0 L0)(T:kdL L0=kd){ds:i_ Dd}(L:(ds.map (·.nm)).Nodup)(N:(os.map (·.nm)).Nodup)(M:∀d,d∈os↔d∈ds)(br:iS os)(O:∀d∈os,(∃k,d.ak=.make k)\/γO 0)(lo:os.length<=60)(ld:ds.length<=60)(hw:∀d∈ds,d.seen.length<=100){w:PV}(gd:h[n]?=a0 (.lst<|ds.map dP))(cw:tJ m h (os.foldl (YF kd) L0) w){E:FE}(k:∀H fu cz,(∀(i:Nat) o,h[i]?=a0 o->H[i]?=a0 o)->E.nx [x0,x1,x2,a0 (.ref n),x4,x5,x6,a0<|pv nm,a0<|.str kd,x9,aw,a0 w,fu,cz] H):(oP [x0,x1,x2,a0 (.ref n),x4,x5,x6,a0<|pv nm,a0<|.str kd,x9,aw,a0 w,fu,cz] h).W E:=by
 unfold oP;rw[aD];simp;refine B8 (R.imp id<|.imp id<|.imp id .inl) (λz=>by rw[q]at z;cases z) λL S U X ⟨V,G,D,Z⟩ l1=>now ?_;rw[q]at U;cases U
 rw[aD];let⟨_,h2,e2,s,l,x,ll,g2,a,r,rfl⟩:=gQ<|Gx ⋯ hw L (X _ _ gd) (Q:=λv H=>∃os l,Ext S H/\S.length<=l/\H[l]?=a0 (.lst<|os.map dP)/\os.Perm ds/\iS os/\v=.ref l) λos l H a b c d e=>⟨os,l,a,b,c,d,e,rfl⟩;let eo:s=os:=by let F:(s.map _).Nodup:=(a.map _).nodup_iff.mpr L;show Cz r br F N (λd D e he z=>B5 F d D e he z) λd=>a.mem_iff.trans (M d).symm
 subst eo;let A:=G.keep λi _ o e=>XW e;let B:LB 0 L0:=JC q;refine Pi R T B O lo A (λi I=>⟨Z i I,by have:=G.lt i I;omega⟩) g2 (yd (zi l1) x.len) (by rw[D]) (by simp[e2]) λy gb Y g p P ln3=>now ?_;let f:LB s.length (s.foldl (YF kd) L0):=by
  have:=LB.steps (nm:=nm) s 0 L0 B O
  rwa[T,V4]at this
 let J:∀(i) o,h[i]?=a0 o->y[i]?=a0 o:=λi o e=>P i o (X2 0).1<|x _ _<|X _ _ e;let K:(bM "content" 0 bW (mV 12) aC [x0,x1,x2,a0 (.ref n),x4,x5,x6,a0<|pv nm,a0<|.str kd,x9,aw,a0 w,a0<|.ref<|V.headD 0,Y] y).W λv u=>Ext y u/\tJ 0 u (s.foldl (YF kd) L0) v:=by let em:mV 12 [x0,x1,x2,a0 (.ref n),x4,x5,x6,a0<|pv nm,a0<|.str kd,x9,aw,a0 w,a0<|.ref<|V.headD 0,Y] y=.ok (.ref _) y:=rfl;rw[mM,em];rw[<-p];show JM (by have:=x.len;omega) g f lo (by simp) λv u x4 c=>⟨x4,c⟩
 let⟨v,u,e4,t,c4⟩:=gQ K;let C:=cw.mono (wj _) λj o _ e=>t _ _<|J j o e;simp[e4,(Pg f c4 C),-U0];show k u _ _ λi o e=>t _ _<|J i o e
def zQ(k:kd="map" \/ kd="row")(h):bR [.str kd] h=.ok .non h:=by
 let w:(bR [.str kd] h).W λp H=>p=.non/\H=h:=by
  refine B8 (.inr<|.inr<|.inr<|.inr k) (λ_=>⟨rfl,rfl⟩) λL u e _ _ _=>?_;let n:∀z∈([("map" : Str),"row"]:yp 0),¬ (z="count")/\¬ (z="choice")/\¬ (z="bag")/\¬ (z="text"):=by decide +kernel
  let⟨N,y,x,v⟩:=n kd<|cA k;unfold lf0 at e;rw[if_neg N,if_neg y,if_neg x,if_neg v]at e;cases e
 let⟨p,H,e,rfl,rfl⟩:=gQ w;show e
def rX(w0):∀d∈mks w0,d.seen.length<=100/\∃k,d.ak=.make k:=λd h=>by simp[mks]at h;rcases h with rfl|rfl|rfl|rfl <;> exact⟨by simp,_,rfl⟩
abbrev lR:Ms:=
 (aG (bG (Ar (aR (aB jJ (mV 6) (cO aC))) (aR (aB jJ (bB [a7] (aV (mV 5)) (gN 0) dQ (b7 (mV 0) (d3 0))) (bB [a7,a0 2] (aV (cO (aA (d3 1) (aA (d3 2) (aA (d3 3) (aA (d3 4) aC)))))) (gN 0) dQ (aT (aA (b7 (mV 1) (d3 0)) (aA (mV 0) aC)))))))
  lZ
  bP)
 (aG (dH (aV (mV 5)) (gTp 5 (gCn (gN 7) (gCn (gN 8) (gCn (gN 9) (gCn (gN 10) (gCn (gN 11) gNl)))))) oP)
 (aP (vA (aB vIs (βM (aA (mC (.str "map")) aC)) (mC .non)) (aB vIs (βM (aA (mC (.str "row")) aC)) (mC .non))))))
def RL{D:Seen}(dn:βu D)(ldl:dl.length<=40)(kz:(os.map (·.nm)).Nodup)(mem:∀d,d∈os↔d∈YM 0++dl)(br:iS os){y:Nat}(gd:h[n]?=a0 (.lst<|(YM 0++dl).map dP))(gh:h[lh]?=a0 (.lst<|(w0::hs).map PV.str))(gr:h[r]?=a0 (.lst vs))(rv:JN m h (oA [] os) vs)(gy:h[y]?=a0 (.lst [])){fg:jh PV}(k:∀h,Q (.bl true) h):(lR [x0,fg,a0 (.ref lh),a0 (.ref n),x4,a0 (.ref r),a0 (.ref y),x7,x8,x9,aw,ax,fu,cz] h).W { nx:=λ_ _=>False,rt:=Q}:=by
 let⟨c,rfl,dy⟩:=CL dn kz mem br;let pj:∀d∈c,γO 0:=λd hd=>(dn.ok d<|dy d hd).ok;let og:∀d∈mks w0++c,(∃k,d.ak=.make k)\/γO 0:=λd hd=>by
  rcases wg.mp hd with z|z
  ·show .inl (rX w0 d z).2
  ·show .inr (pj d z)
 let hw:∀d∈mks w0++dl,d.seen.length<=100:=λd hd=>by
  rcases wg.mp hd with z|z
  ·show(rX w0 d z).1
  ·show(dn.ok d z).ln
 let ld:(YM 0++dl).length<=60:=by simp[mks];omega
 let lo:(YM 0++c).length<=60:=by let n1:(YM 0++c).Nodup:=(Ud.mp kz).imp λh e=>h (by rw[e]);have:=V5 (l₁:=YM 0++c) (l₂:=YM 0++dl) n1 λd z=>(mem d).mp z;omega
 rw[JX pj]at rv;let⟨lv,ov⟩:=rv;rw[wd]at lv;let lv:vs.length=4:=lv
 -- each row
 let row:∀(i:Nat) v,vs[i]?=a0 v->∃e w,(E0 w0)[i]?=a0 e/\v=Ba e w/\∃u,e.lf=a0 u/\tJ m h ((YM 0++c).foldl (bN e.nm e.kd) u) w:=λi v hv=>by
  let⟨e,w,e1,e2,e3⟩:=ov i v hv;rw[xf]at e1;let⟨e',j9,rfl⟩:=xv.mp e1;refine⟨e',w,j9,e2,?_⟩;let hm:e'∈E0 w0:=ye j9;let mk:∀L,(YM 0).foldl (bN e'.nm e'.kd) L=L:=λL=>by
   let n0:∀z∈([("count" : Str),"choice","bag","text"]:yp 0),z≠"make" := by decide +kernel
   let hk:e'.kd≠"make" := n0 _ (by simp[E0,mkE]at hm;rcases hm with rfl|rfl|rfl|rfl <;> simp);let st:∀(kd:Str)(nm:Nm)(sn:Seen),∀L,bN e'.nm e'.kd L ⟨nm,sn,root,.make kd⟩=L:=λkd nm sn L=>if_neg λz=>hk z.2;simp only[mks,VB,List.foldl_nil,st]
  let hl:∃u,e'.lf=a0 u:=by
   simp[E0,mkE]at hm;rcases hm with rfl|rfl|rfl|rfl
   ·show let ⟨L,e,_⟩:=rW<|.inl rfl;⟨L,e⟩
   ·show let ⟨L,e,_⟩:=rW<|.inr<|.inl rfl;⟨L,e⟩
   ·show let ⟨L,e,_⟩:=rW<|.inr<|.inr<|.inl rfl;⟨L,e⟩
   ·show let ⟨L,e,_⟩:=rW<|.inr<|.inr<|.inr rfl;⟨L,e⟩
  let⟨u,hL⟩:=hl;refine⟨u,hL,?_⟩;rw[List.foldl_append,mk];let e3:E4 m h (e'.lf.map λL=>c.foldl (bN e'.nm e'.kd) L) w:=e3;rw[hL]at e3;show e3
 obtain⟨a1,a2,a3,a4,rfl⟩:∃a b c d,vs=[a,b,c,d]:=by rcases vs with _|⟨a,_|⟨b,_|⟨c,_|⟨d,_|⟨e,r⟩⟩⟩⟩⟩ <;> simp at lv;show⟨a,b,c,d,rfl⟩
 let⟨_,w1,z1,rfl,L1,q1,c1⟩:=row 0 _ rfl;let⟨_,w2,z2,rfl,qo,q2,c2⟩:=row 1 _ rfl;let⟨_,w3,z3,rfl,L3,q3,c3⟩:=row 2 _ rfl;let⟨_,w4,z4,rfl,L4,q4,c4⟩:=row 3 _ rfl;cases z1;cases z2;cases z3;cases z4;unfold lR;rw[aD,cD];let n1:jJ (.ref y) (.ref h.length) (h++[MO.lst []])=.ok (.bl false) (h++[MO.lst []]):=by rw[IZ (ZF gy) aE];rfl
 let x1:=YX [MO.lst []];obtain⟨hA,eA⟩:∃hA,hA=h++[MO.lst []]:=⟨_,rfl⟩;rw[<-eA]at n1 x1;let hc:=eO (m:=mV 5) (js:=[a7]) (tg:=gN 0) (tst:=dQ) (elt:=b7 (mV 0)<|d3 0) (δ:=[x0,fg,a0 (.ref lh),a0 (.ref n),x4,a0 (.ref r),a0 (.ref y),x7,x8,x9,aw,ax,fu,cz]) (h:=hA) (h1:=hA) (n:=r) (ys:=[(mkE (w0,1) "count",w1),(mkE (w0,2) "choice",w2),(mkE (w0,3) "bag",w3),(mkE (w0,4) "text",w4)]) (emb:=λp=>Ba p.1 p.2)
  (λp=>a0<|pv p.1.nm) (by simp) (x1 _ _ gr) (by simp) (λp _=>⟨[a0<|Ba p.1 p.2],by simp[dI],λa _=>⟨rfl,by unfold Ba;simp⟩⟩)
 let x2:=Ext.app hA [MO.lst<|[((w0,1):Nm),(w0,2),(w0,3),(w0,4)].map pv];let g2:(hA++[MO.lst<|[((w0,1):Nm),(w0,2),(w0,3),(w0,4)].map pv])[hA.length]?=_:=aE;let hc:bB [a7] (aV<|mV 5) (gN 0) dQ (b7 (mV 0)<|d3 0) [x0,fg,a0 (.ref lh),a0 (.ref n),x4,a0 (.ref r),a0 (.ref y),x7,x8,x9,aw,ax,fu,cz] hA=.ok (.ref hA.length) (hA++[MO.lst<|[((w0,1):Nm),(w0,2),(w0,3),(w0,4)].map pv]):=hc;generalize hA.length=lB at hc g2;generalize hA++[MO.lst<|[((w0,1):Nm),(w0,2),(w0,3),(w0,4)].map pv]=hB at hc x2 g2;let x3:=Ext.app hB [MO.lst<|[(1:Int),2,3,4].map PV.int];let g3:(hB++[MO.lst<|[(1:Int),2,3,4].map PV.int])[hB.length]?=a0 (.lst<|[(1:Int),2,3,4].map PV.int):=aE;let ed:cO (aA (d3 1)<|aA (d3 2)<|aA (d3 3)<|aA (d3 4) aC) [x0,fg,a0 (.ref lh),a0 (.ref n),x4,a0 (.ref r),a0 (.ref y),x7,x8,x9,aw,ax,fu,cz] hB=.ok (.ref hB.length) (hB++[MO.lst<|[(1:Int),2,3,4].map PV.int]):=by simp
 generalize hB.length=lC at g3 ed;generalize hB++[MO.lst<|[(1:Int),2,3,4].map PV.int]=hC at x3 g3 ed;let ih:∀a,Ext hC a->vIx (.ref lh) (.int 0) a=.ok (.str w0) a:=λa x=>by rw[bE<|x _ _<|x3 _ _<|x2 _ _<|x1 _ _ gh,show atI ((w0::hs).map PV.str) 0=a0 (.str w0) from bZ (i:=0) rfl];rfl
 let hd:=eO (m:=cO<|aA (d3 1)<|aA (d3 2)<|aA (d3 3)<|aA (d3 4) aC) (js:=[a7,a0 2]) (tg:=gN 0) (tst:=dQ) (elt:=aT<|aA (b7 (mV 1)<|d3 0)<|aA (mV 0) aC) (h:=hB) (h1:=hC) (n:=lC) (ys:=[(1:Int),2,3,4]) (emb:=PV.int)
  (λj=>a0<|pv (w0,j)) ed g3 (by simp) (λj _=>⟨[a0 (.int j),a0 (.ref lh)],by simp[dI],λa x=>⟨rfl,by simp[ih a x,pv]⟩⟩)
 let hd:bB [a7,a0 2] (aV<|cO<|aA (d3 1)<|aA (d3 2)<|aA (d3 3)<|aA (d3 4) aC) (gN 0) dQ (aT<|aA (b7 (mV 1)<|d3 0)<|aA (mV 0) aC) [x0,fg,a0 (.ref lh),a0 (.ref n),x4,a0 (.ref r),a0 (.ref y),x7,x8,x9,aw,ax,fu,cz] hB=.ok (.ref hC.length) (hC++[MO.lst<|[((w0,1):Nm),(w0,2),(w0,3),(w0,4)].map pv]):=hd;let ni:=Ext.app hC [MO.lst<|[((w0,1):Nm),(w0,2),(w0,3),(w0,4)].map pv];let g4:(hC++[MO.lst<|[((w0,1):Nm),(w0,2),(w0,3),(w0,4)].map pv])[hC.length]?=_:=aE;generalize hC.length=lD at hd g4;generalize hC++[MO.lst<|[((w0,1):Nm),(w0,2),(w0,3),(w0,4)].map pv]=hD at hd ni g4;let xx:=((x1.trans x2).trans x3).trans ni;let n2:jJ (.ref lB) (.ref lD) hD=.ok (.bl false) hD:=IY (ni _ _<|x3 _ _ g2) g4 rfl;simp[<-eA,n1,hc,hd,n2];refine now ?_;rw[aD];refine rF (n:=r) (h1:=hD) (λq δ a=>(∀(i:Nat) o,h[i]?=a0 o->a[i]?=a0 o)/\∃y7 y8 y9 j p b x,δ=[x0,fg,a0 (.ref lh),a0 (.ref n),x4,a0 (.ref r),a0 (.ref y),y7,y8,y9,j,p,b,x]) (by simp) (xx _ _ gr) ⟨λi o e=>xx _ _ e,_,_,_,_,_,_,_,rfl⟩ ?_ ?_ ?_
 ·rintro q δ a _ ⟨kp,_⟩;show kp _ _ gr
 ·rintro q v δ a hv ⟨kp,y7,y8,y9,j,p,b,x,rfl⟩;let go:∀(nm:Nm)(kd:Str)(w:PV)(u:Lf),(kd="count" \/ kd="choice" \/ kd="bag" \/ kd="text")->lf0 kd=a0 u->kdL u=kd->tJ m h ((YM 0++c).foldl (YF kd) u) w->v=Ba (mkE nm kd) w->∃δ1,gTp 5 (gCn (gN 7)<|gCn (gN 8)<|gCn (gN 9)<|gCn (gN 10)<|gCn (gN 11) gNl) v [x0,fg,a0 (.ref lh),a0 (.ref n),x4,a0 (.ref r),a0 (.ref y),y7,y8,y9,j,p,b,x]=a0 δ1/\(oP δ1 a).W { nx:=λδ a=>(∀(i:Nat) o,h[i]?=a0 o->a[i]?=a0 o)/\∃y7 y8 y9 j p b x,δ=[x0,fg,a0 (.ref lh),a0 (.ref n),x4,a0 (.ref r),a0 (.ref y),y7,y8,y9,j,p,b,x],ct:=λδ a=>(∀(i:Nat) o,h[i]?=a0 o->a[i]?=a0 o)/\∃y7 y8 y9 j p b x,δ=[x0,fg,a0 (.ref lh),a0 (.ref n),x4,a0 (.ref r),a0 (.ref y),y7,y8,y9,j,p,b,x],rt:=Q,bk:=λδ h=>Lt (aP<|vA (aB vIs (βM<|aA (mC<|.str "map") aC)<|mC .non)<|aB vIs (βM<|aA (mC<|.str "row") aC)<|mC .non) { nx:=λ_ _=>False,rt:=Q} δ h}:=λnm kd w u hk e0 ek cw ev=>by subst ev;refine⟨[x0,fg,a0 (.ref lh),a0 (.ref n),x4,a0 (.ref r),a0 (.ref y),a0<|pv nm,a0<|.str kd,a0<|pv root,a0<|.str "k",a0 w,b,x],by simp[Ba,mkE],?_⟩;show Pj hk e0 ek dn.nd kz mem br og lo ld hw (kp _ _ gd) ((λkp c=>c.mono (wj _) λj o _ e=>kp j o e) kp cw) λh2 z12 z13 k2=>⟨λi o e=>k2 i o<|kp i o e,_,_,_,_,_,_,_,rfl⟩
  let hq:q=0\/q=1\/q=2\/q=3:=by have:=(vz.mp hv).1;simp at this;omega
  let kj:∀{kd:Str}{L:Lf},(kd="count" \/ kd="choice" \/ kd="bag" \/ kd="text")->lf0 kd=a0 L->kdL L=kd:=λhk e=>by
   let⟨L',e1,e2⟩:=rW hk;rw[e]at e1;cases e1
   show e2
  rcases hq with rfl|rfl|rfl|rfl <;> cases hv
  ·show go (w0,1) "count" w1 L1 (.inl rfl) q1 (kj (.inl rfl) q1) c1 rfl
  ·show go (w0,2) "choice" w2 qo (.inr<|.inl rfl) q2 (kj (.inr<|.inl rfl) q2) c2 rfl
  ·show go (w0,3) "bag" w3 L3 (.inr<|.inr<|.inl rfl) q3 (kj (.inr<|.inr<|.inl rfl) q3) c3 rfl
  ·show go (w0,4) "text" w4 L4 (.inr<|.inr<|.inr rfl) q4 (kj (.inr<|.inr<|.inr rfl) q4) c4 rfl
 ·rintro δ a ⟨kp,y7,y8,y9,j,p,b,x,rfl⟩;refine now ?_;let m1:=zQ (kd:="map") (.inl rfl) a;let m2:=zQ (kd:="row") (.inr rfl) a;let v1:vIs .non .non a=.ok (.bl true) a:=rfl;simp[m1,m2,v1];show k a
def Mv(ds):gX i j (ds.map dP)=(gX i j ds).map dP:=by
 unfold gX;rw[wd,List.map_filterMap];congr 1;funext k;rw[xf]
def main(a:Zg 0)(hl:a.length<=63):∃h,J8 [.fl<|a.map PV.int] []=.ok (.bl true) h:=by
 let w:(J8 [.fl<|a.map PV.int] []).W λp _=>p=.bl true:=by
  refine W_fn ?_;unfold J7;rw[aD];let c0:=M0 a 0;simp only[Int.cast_ofNat_Int]at c0;simp(disch:=omega) [c0];generalize cell a 0=c at c0;obtain⟨m,em⟩:∃m:Nat,1+c/24%3=(m:Int):=⟨(1+c/24%3).toNat,⋯⟩;let hm:1<=m/\m<=3:=⋯;refine now ?_;rw[aD];simp(disch:=omega) [em];refine Ji c m ⋯ _ _ λhs lh hA gh lhs f7=>?_
  try simp
  obtain⟨y,hs,rfl⟩:∃a r,hs=a::r:=by
   cases hs with
   |nil=>simp at lhs;omega
   |cons a r=>exact⟨a,r,rfl⟩
  rw[yw]at lhs;refine now ?_;rw[aD];simp[Lh];let gc:(hA++[MO.lst<|(fY a (a0 1)<|a0 41).map PV.int])[hA.length]?=a0 (.lst<|(fY a (a0 1)<|a0 41).map PV.int):=aE;let xC:Ext hA (hA++[MO.lst<|(fY a (a0 1)<|a0 41).map PV.int]):=n7 _;let jv:(fY a (a0 1)<|a0 41).length<=40:=by simp[fY,HT.sIx];omega
  generalize hA.length=lc at gc;generalize hA++[MO.lst<|(fY a (a0 1)<|a0 41).map PV.int]=hC at gc xC;generalize fY a (a0 1) (a0 41)=cs at gc jv;refine JU cs jv y hs ⋯ f7 lc lh hC gc (xC _ _ gh) _ λw D ld r xE ge dn lr=>?_
  try simp
  let ql:=xE _ _<|xC _ _ gh;refine now ?_;rw[aD];let lds:(mks y++w).length<=44:=by simp[mks];omega
  -- the deeds that are handed
  let fin:∀(ts:i_ Dd)(lt:Nat)(D:PH)(x4:PV),Ext r D->x4=.ref lt->D[lt]?=a0 (.lst<|ts.map dP)->(∀d,d∈ts↔d∈mks y++w)->ts.length<=1000->((aG (jZ (aW 2 AY<|aA (wA qQ)<|aA (mV 4) aC)<|gTp 2<|gCn (gN 5)<|gCn (gN 6) gNl) lR) [a0<|.fl<|a.map PV.int,a0 (.int c),a0 (.ref lh),a0 (.ref ld),a0 x4,a7,a7,a7,a7,a7,a7,a7,a7,a7] D).W { nx:=λ_ _=>False,rt:=λp _=>p=.bl true}:=λts lt D x4 xT e4 gT q rn=>by
   subst e4;rw[aD];let x5:Ext D (D++[MO.lst [],MO.lst []]):=n7 _;let g5:(D++[MO.lst [],MO.lst []])[D.length]?=a0 (.lst []):=by simp
   let c:(D++[MO.lst [],MO.lst []])[D.length+1]?=a0 (.lst []):=by simp
   let ee:qQ [] D=.ok (.tup [.ref D.length,.ref<|D.length+1]) (D++[MO.lst [],MO.lst []]):=by
    let w:(qQ [] D).W λp h'=>p=.tup [.ref D.length,.ref<|D.length+1]/\h'=D++[MO.lst [],MO.lst []]:=by refine W_fn ?_;unfold AZ;simp
    let⟨p,h',e,rfl,rfl⟩:=gQ w;show e
   generalize D.length=la at g5 c ee;generalize D++[MO.lst [],MO.lst []]=hU at x5 g5 c ee;simp[ee];let hu:=B5 dn.nd;let tw:∀d∈mks y++w,d.seen.length<=100:=λd o=>by
    rcases wg.mp o with z|z
    ·show(rX y d z).1
    ·show(dn.ok d z).ln
   refine Mp g5 c (x5 _ _ gT) (mks y++w) (λd o=>(q d).mp o) ⋯ (λd o=>tw d<|(q d).mp o) rn (λd o e he z=>hu d ((q d).mp o) e ((q e).mp he) z) (λos nd om br=>?_) λos r y vs h' mm kp nd om br gr rv gy _=>?_
   ·let pf:∀d,d∈os↔d∈mks y++w:=λd=>(om d).trans<|q d;let⟨cm,rfl,dy⟩:=CL dn nd pf br;refine⟨JW dn dy,Mr λd o=>(dn.ok d<|dy d o).ok,?_⟩;have:=V5 (l₁:=mks y++cm) (l₂:=mks y++w) ((Ud.mp nd).imp λh e=>h<|by rw[e]) λd z=>(pf d).mp z;omega
   ·refine⟨_,by simp;rfl,now ?_⟩;let kk:∀(i:Nat) o,hU[i]?=a0 o->h'[i]?=a0 o:=λi o e=>by rw[kp i (X2 0).1];show e
    show RL dn ⋯ nd (λd=>(om d).trans<|q d) br (Q:=λp _=>p=.bl true) (kk _ _<|x5 _ _<|xT _ _ ge) (kk _ _<|x5 _ _<|xT _ _ ql) gr rv gy λh=>rfl
  let xF:Ext r (r++[MO.lst<|(mks y++w).map dP]):=n7 _;let gF:(r++[MO.lst<|(mks y++w).map dP])[r.length]?=a0 (.lst<|(mks y++w).map dP):=aE;let vl:=iI ge;generalize r.length=l4 at gF vl;generalize r++[MO.lst<|(mks y++w).map dP]=hF at xF gF vl;simp[vl];refine now ?_;rw[aD,cD];by_cases q:c/72%2=1
  ·let oo:=xF _ _ ge;let r1:=Gd oo;let x6:Ext hF (hF++[MO.lst ((mks y++w).map dP).reverse]):=n7 _;let c:(hF++[MO.lst ((mks y++w).map dP).reverse])[hF.length]?=a0 (.lst ((mks y++w).map dP).reverse):=aE;generalize hF.length=l6 at r1 c;generalize hF++[MO.lst ((mks y++w).map dP).reverse]=hG at r1 x6 c;let r2:=Gm (i:=3) (j:=5)<|x6 _ _ oo;rw[Mv]at r2;let x7:Ext hG (hG++[MO.lst<|(βY<|mks y++w).map dP]):=n7 _;let g7:(hG++[MO.lst<|(βY<|mks y++w).map dP])[hG.length]?=a0 (.lst<|(βY<|mks y++w).map dP):=aE;let sl:(βY<|mks y++w).length<=44:=by
    let h2:=slicePick_size_le (((mks y++w).map λ_=>zc).toArray) (a0 3) a7<|a0 5;let e:slicePick (((mks y++w).map λ_=>zc).toArray) (a0 3) a7 (a0 5)=((βY<|mks y++w).map λ_=>zc).toArray:=by unfold slicePick gX IP;simp only[w6,List.getElem?_toArray,wd,List.map_filterMap,xf]
    rw[e]at h2;simp only[w6,wd]at h2;omega
   generalize hG.length=l7 at r2 g7;generalize hG++[MO.lst<|(βY<|mks y++w).map dP]=hH at r2 x7 g7;let vp:=oJ (x7 _ _ c) g7 (by rw[Vd,wd,wd];omega);rw[<-List.map_reverse,<-zv]at vp;let x8:Ext hH (hH++[MO.lst<|((mks y++w).reverse++βY (mks y++w)).map dP]):=n7 _;let g8:(hH++[MO.lst<|((mks y++w).reverse++βY (mks y++w)).map dP])[hH.length]?=a0 (.lst<|((mks y++w).reverse++βY (mks y++w)).map dP):=aE;generalize hH.length=l8 at vp g8;generalize hH++[MO.lst<|((mks y++w).reverse++βY (mks y++w)).map dP]=hI at vp x8 g8;simp(disch:=omega) [q,r1,r2,vp];let go:=fin _ _ _ _ (((xF.trans x6).trans x7).trans x8) rfl g8 (λd=>?_) (by rw[wq,Vd];omega)
   ·unfold lR at go;show now go
   rw[wg,Uo];show⟨λz=>z.elim id IQ,.inl⟩
  ·simp(disch:=omega) [q];let go:=fin _ _ _ _ xF rfl gF (λd=>Iff.rfl) ⋯;unfold lR at go;show now go
 let⟨p,h,e,rfl⟩:=gQ w;show⟨h,e⟩
abbrev top(i:Nat):h_:=PySem.Challenge.pw_copymeet_k63_each_leaf_hears_its_own.main.body.getD i<|.Pass ⟨0,0,0,0⟩
@[reducible]noncomputable def bsL:yp 0:=["len","range","max","min","sorted","tuple","list","sum","str","isinstance","zip","reversed"]
@[reducible]noncomputable def cC(w:fI)(K:wc)(cl:Str->jh d8):MC:=⟨K,cl,bsL,λ_ _ _=>False,w⟩
@[reducible]noncomputable def clF(bu ba dm bw bt cg cj aq:d8):Str->jh d8:=λz=>if z=("Count" : Str) then a0 bu else if z=("Choice" : Str) then a0 ba else if z=("Bag" : Str) then a0 dm else if z=("Marks" : Str) then a0 bw else if z=("Signs" : Str) then a0 bt else if z=("Text" : Str) then a0 cg else if z=("Tree" : Str) then a0 cj else if z=("Folding" : Str) then a0 aq else a7
def clI{p:d8->Prop}{bu ba dm bw bt cg cj aq a:d8}{c:Str}(hc:clF bu ba dm bw bt cg cj aq c=a0 a)(fj:p bu)(e8:p ba)(j1:p dm)(fy:p bw)(fx:p bt)(g9:p cg)(ir:p cj)(dt:p aq):p a:=by
 dsimp only[clF]at hc;split at hc
 ·cases hc
  show fj
 split at hc
 ·cases hc
  show e8
 split at hc
 ·cases hc
  show j1
 split at hc
 ·cases hc
  show fy
 split at hc
 ·cases hc
  show fx
 split at hc
 ·cases hc
  show g9
 split at hc
 ·cases hc
  show ir
 split at hc
 ·cases hc
  show dt
 cases hc
@[reducible]noncomputable def fL:yp 0:=["failed","kept","leaves","made","marks","signs","standing","total","tree"]
abbrev NfX(K:wc)(A:d8):yp 0->Prop
 |[]=>True
 |f::r=>Ue K (.ref A) f=a0 a7/\NfX K A r
def NfX.at{K:wc}{A:d8}{f:Str}{l:yp 0}(h:NfX K A l)(m:f∈l):Ue K (.ref A) f=a0 a7:=by
 induction l with
 |nil=>exact absurd m TZ
 |cons a l ih=>exact(wu.mp m).elim (λe=>by subst e;show h.1) (ih h.2)
def at2{a b:Prop}(h:a)(f:a->b):b:=f h
def anE{a b c:Prop}(h:a/\b)(f:a->b->c):c:=f h.1 h.2
abbrev tgN:g_->yp 0
 |.Name x _=>[x]
 |.Tuple es _ _=>es.flatMap λe=>match e with
  |.Name x _=>[x]
  |.Tuple gs _ _=>gs.flatMap λe=>match e with
   |.Name x _=>[x]
   |_=>[]
  |_=>[]
 |_=>[]
abbrev mkN(o:yp 0):i_ (YJ 0)->yp 0->yp 0
 |some j::r,xs=>o.getD j "" :: mkN o r xs
 |none::r,x::xs=>x::mkN o r xs
 |_,_=>[]
abbrev ndB:yp 0->Bool
 |[]=>true
 |x::r=>r.all (λy=>!decide (x=y))&&ndB r
def oC:∀{l:yp 0},ndB l=true->l.Nodup
 |[],_=>.nil
 |x::r,h=>by simp only[ndB,yq,xi]at h;show z7.2 ⟨λm=>by simpa using h.1 x m,oC h.2⟩
section
variable{C:MC}{k i:Nat}{X:Cx}{elt iter tg:g_}{ifs:i_ g_}{sc os:Scope}{pos pos' cq:Pos}{oN:yp 0}{js:i_ (YJ 0)}{mi:Mi}{g:Mg}{tt:Ev->PH->Xa 0}{me:Me}{x:Str}
def Tu(e:X.env.scope=os)(e':X.N=oN)(h:XX (XN<|tgN tg) js=true)(nd:ndB (XN<|tgN tg)=true)(hi:Xp mi)
  (hg:∀a b c d,(Am (XN<|tgN tg) a b c d).N.Nodup->γA (Am (XN<|tgN tg) a b c d) tg g/\δT (Am (XN<|tgN tg) a b c d) ifs tt/\SE C k (Am (XN<|tgN tg) a b c d) elt me)
  (hs:∀x,W1 x=pure x:=by intro _;rfl):c_ (.ListComp elt [⟨tg,iter,ifs,0⟩] sc pos) (γf g tt me):=Oh e e' h hi (λa b c d=>(αG<|oC nd).1) (λa b c d=>(αG<|oC nd).2.1) (λa b c d=>(αG<|oC nd).2.2) hs
def Tv(nd:X.N.Nodup)(h1:X.N[i]?=a0 x)(h2:vv 0=a0 .local)(e:X.env.scope=os)(e':X.N=oN)(h:XX (XN<|tgN tg) js=true)(nu:ndB (XN<|tgN tg)=true)(hi:Xp mi)
  (hg:∀a b c d,(Am (XN<|tgN tg) a b c d).N.Nodup->γA (Am (XN<|tgN tg) a b c d) tg g/\δT (Am (XN<|tgN tg) a b c d) ifs tt/\SE C k (Am (XN<|tgN tg) a b c d) elt me)
  (vc:WG (.ListComp elt [⟨tg,iter,ifs,0⟩] sc pos) (a0<|.Name x pos') cq.line X.env=pure true:=by rfl) (hs:∀x,W1 x=pure x:=by intro _;rfl):Xc (.Assign [.Name x pos'] (.ListComp elt [⟨tg,iter,ifs,0⟩] sc pos) cq) (aY i<|bB js mi g tt me):=G2 nd h1 h2 e e' h hi (λa b c d=>(αG<|oC nu).1) (λa b c d=>(αG<|oC nu).2.1) (λa b c d=>(αG<|oC nu).2.2) vc hs
end
abbrev fsB(N:yp 0)(n:Nat)(sc:Scope):Bool:=(match sc.kind with|.function=>true|_=>false) && !sc.isCoroutine && !sc.isGenerator&&ndB N&&decide (n<=N.length)&&(Za 0).all (λx=>match A7 0 with|some .local=>true|some .cell=>true|_=>false)&&sc.names.all λy=>match y.2 with|.free=>false|_=>true
def K3{N:yp 0}{n:Nat}{sc:Scope}(h:fsB N n sc=true):pT N (Za 0) sc/\(Za 0).length=n:=by
 simp only[fsB,yq,VV,xi,decide_eq_true_eq]at h;let⟨⟨⟨⟨⟨⟨h1,h2⟩,h3⟩,h4⟩,h5⟩,h6⟩,h7⟩:=h;let hl:(Za 0).length=n:=by rw[ya];omega
 refine⟨⟨?_,h2,h3,oC h4,by rw[hl],λx m=>?_,λy m e=>?_⟩,hl⟩
 ·split at h1
  ·assumption
  ·cases h1
 ·have:=h6 x m;split at this
  ·show .inl (by assumption)
  ·show .inr (by assumption)
  ·cases this
 ·have:=h7 y m;rw[e]at this;cases this
abbrev FnX(K:wc)(f:d8)(nm qual:Str)(st:h_):Prop:=∃oc kV doc pm cdv ct od an osl,K.lookup f=a0 ⟨oc,od,.func<|US nm qual (dS st) (bY st) (aS st) .none kV doc pm an cdv ct,osl⟩/\WM K cdv qual=true/\U2 K (.ref f)=true
abbrev MtX(K:wc)(A:d8)(nm qual:Str)(st:h_):Prop:=∃f,Ue K (.ref A) nm=a0 (a0 (.ref f))/\PySem.W.isFn K (.ref f)=true/\FnX K f nm qual st
abbrev DfX(K:wc)(nm:Str)(st:h_):Prop:=∃f,WO K Uz nm=a0 (a0 (.ref f))/\FnX K f nm nm st
abbrev DsL(K:wc):i_ (Str×Nat)->Prop
 |[]=>True
 |(x,i)::r=>DfX K x (top i)/\DsL K r
abbrev fA(K:wc)(x:Str):d8:=match WO K Uz x with
 |some (a0 (.ref f))=>f
 |_=>0
abbrev mA(K:wc)(A:d8)(x:Str):d8:=match Ue K (.ref A) x with
 |some (a0 (.ref f))=>f
 |_=>0
abbrev dA(K:wc)(a:d8):UH:=match βZ 0 with
 |some ⟨_,_,.func f,_⟩=>f
 |_=>US "" "" (dS<|top 0) [] (aS<|top 0) .none .none .none .none a7 .none .none
def DsL.at{K:wc}{x:Str}{i:Nat}{l:i_ (Str×Nat)}(h:DsL K l)(m:(x,i)∈l):DfX K x (top i):=by
 induction l with
 |nil=>exact absurd m TZ
 |cons a l ih=>exact(wu.mp m).elim (λe=>by subst e;show h.1) (ih h.2)
@[reducible]noncomputable def BdX(nm qual:Str)(st:h_)(n:Nat)(ps:yp 0):Prop:=∀(kV doc pm:d6)(an:jh d8)(cdv ct:d6)(us:Xu 0),us.length=n->bindArgs (US nm qual (dS st) (bY st) (aS st) .none kV doc pm an cdv ct) ⟨us,[]⟩=pure (ps.zip us)
abbrev BdP(P:Xu 0->Prop):Nat->Prop
 |0=>P []
 |n+1=>∀u,BdP (λus=>P (u::us)) n
def bdP:∀{n:Nat}{P:Xu 0->Prop}{us:Xu 0},BdP P n->us.length=n->P us
 |0,_,[],h,_=>h
 |_+1,P,u::_,h,hl=>bdP (P:=λus=>P (u::us)) (h u) (Nat.succ.inj hl)
@[reducible]noncomputable def BdQ(nm qual:Str)(st:h_)(n:Nat)(ps:yp 0):Prop:=BdP (λus=>∀(kV doc pm:d6)(an:jh d8)(cdv ct:d6),bindArgs (US nm qual (dS st) (bY st) (aS st) .none kV doc pm an cdv ct) ⟨us,[]⟩=pure (ps.zip us)) n
def bdX{nm qual:Str}{st:h_}{n:Nat}{ps:yp 0}(b:BdQ nm qual st n ps):BdX nm qual st n ps:=λk d p a c t _ hl=>bdP b hl k d p a c t
structure ClX(K:wc)(A:d8)(nm:Str)(fs:i_ Str):Prop where
 n:WO K Uz nm=some (a0 (.ref A))
 pg:Wv K A Str.empty=true
 hd:PySem.W.hasDictIn K A=true
 po:PySem.W.plainOver K A=true
 sa:Ue K (.ref A) "__setattr__" = some (some (.builtin "object.__setattr__"))
 mx:PySem.W.makesIn K A=true
 kc:U2 K (.ref A)=true
 nf:NfX K A fs
def ClX.cls9{K:wc}{A:d8}{nm:Str}{fs:yp 0}(q:ClX K A nm fs):Cls K A:=⟨q.pg,q.hd,q.po,q.sa⟩
structure ClZ(w:fI)(K:wc)(mg:(Str->Option d6))(cl:Str->jh d8)(c:Str)(A:d8):Prop where
 cl:cl c=some A
 hc:Cls K A
 mg:mg c=a0 (.ref A)
 mx:PySem.W.makesIn K A=true
 kc:U2 K (.ref A)=true
def mtN{C:MC}{k:Nat}{X:Cx}{m c:Str}{n j:Nat}{a g:d8}{fd:UH}{ps:yp 0}{f:Fn}{tb:Str->jh Fn}(h:(C.cl c=a0 a/\Cls C.K a)/\CV C.K a m g/\j_ g fd ps (Yt (n+1) f)/\Y_ [])(h6:j<=k)(r:Zl tb):Zl (λz=>if z=c then a0 f else tb z):=Lw h.1.1 h.1.2 h.2.1 h6 h.2.2.1 h.2.2.2 r
abbrev MsL(K:wc)(A:d8):i_ (Str×Str×Nat×Nat)->Prop
 |[]=>True
 |(x,q,i,j)::r=>MtX K A x q (inClass (top i) j)/\MsL K A r
@[reducible]noncomputable def dL:i_ (Str×Nat):=[("_law_cell_at",37),("_law_stream",38),("_law_hands",39),("_law_number",40),("_law_text_act",41),("_law_act",42),("_law_places",43),("_law_deeds",44),("stamp",4),("rank",5),("in_order",6),("place_of",15),("stand_of",30),("leaf_of",26),("kind_for",27),("covers",3),("places_of",16),("rank_of",13),("row_rank",14),("holed",18),("row_thing",31),("fold",35),("empty",34),("_law_key",45),("_law_words",46),("law",47)]
@[reducible]noncomputable def Fg:i_ (Str×Str×Nat×Nat):=[("__init__","Count.__init__",9,0),("content","Count.content",9,3),("hear","Count.hear",9,1)]
@[reducible]noncomputable def CN:i_ (Str×Str×Nat×Nat):=[("__init__","Choice.__init__",10,0),("content","Choice.content",10,3),("hear","Choice.hear",10,1)]
@[reducible]noncomputable def N4:i_ (Str×Str×Nat×Nat):=[("__init__","Bag.__init__",11,0),("content","Bag.content",11,3),("hear","Bag.hear",11,1)]
@[reducible]noncomputable def Fh:i_ (Str×Str×Nat×Nat):=[("__init__","Marks.__init__",19,0),("clear","Marks.clear",19,2),("mark","Marks.mark",19,1),("rows","Marks.rows",19,6)]
@[reducible]noncomputable def Fi:i_ (Str×Str×Nat×Nat):=[("__init__","Signs.__init__",21,0),("cut","Signs.cut",21,2),("rows","Signs.rows",21,4),("write","Signs.write",21,1)]
@[reducible]noncomputable def K4:i_ (Str×Str×Nat×Nat):=[("__init__","Text.__init__",23,0),("content","Text.content",23,5),("hear","Text.hear",23,1)]
@[reducible]noncomputable def K5:i_ (Str×Str×Nat×Nat):=[("__init__","Tree.__init__",29,0),("fill","Tree.fill",29,12),("hear","Tree.hear",29,1),("hear_make","Tree.hear_make",29,2),("kind_of","Tree.kind_of",29,6),("lost","Tree.lost",29,10),("rows","Tree.rows",29,11),("takes","Tree.takes",29,4)]
@[reducible]noncomputable def zR:i_ (Str×Str×Nat×Nat):=[("__init__","Folding.__init__",33,0),("add_leaf","Folding.add_leaf",33,1),("base","Folding.base",33,4),("content_of","Folding.content_of",33,5),("hear","Folding.hear",33,2),("hear_tree","Folding.hear_tree",33,3)]
section
variable{P:f_}{w:fI}{K:wc}{mg:(Str->T_ 0)}{base:e_}{cl:Str->jh d8}
variable(P w K mg base cl)
@[reducible]noncomputable def tC(j:Nat)(x:Str)(t:Nat)(N:yp 0)(n:Nat)(m:Fn):Prop:=Def K mg x (top t) (fA K x) (dA K<|fA K x) (Za 0)/\W3 CX0 j (fA K x) (dA K<|fA K x) (Za 0) (spM (βO 0) n m)
@[reducible]noncomputable def tM(c:Str)(A:d8)(j:Nat)(x:Str)(N:yp 0)(n:Nat)(m:Fn):Prop:=(cl c=a0 A/\Cls K A)/\CV K A x (mA K A x)/\W3 CX0 j (mA K A x) (dA K<|mA K A x) (Za 0) (spM (βO 0) n m)/\Binds K (dA K<|mA K A x) (Za 0) []
@[reducible]noncomputable def tI(c:Str)(A:d8)(j:Nat)(N:yp 0)(n:Nat)(m:Fn):Prop:=cl c=a0 A/\Mk K A (mA K A "__init__")/\W3 CX0 j (mA K A "__init__") (dA K<|mA K A "__init__") (Za 0) (spM (βO 0) n m)/\mg c=a0 (.ref A)/\Binds K (dA K<|mA K A "__init__") (Za 0) []
variable{P w K mg base cl}
def mbL{x:Str}(h:x∈bsL:=by decide +kernel):x∈bsL:=h
structure ZZ(P:f_)(base:e_)(w:fI)(K:wc)(mg:(Str->Option d6))(cl:Str->jh d8)(A_Count A_Choice A_Bag A_Marks A_Signs A_Text A_Tree A_Folding cG oD:d8):Prop where
 hbn:∀x∈bsL,mg x=none
 XG:∃h:e_,K.In h/\h.Ns Uz mg
 ds:DsL K dL
 z_Count:ClZ w K mg cl "Count" A_Count
 m_Count:MsL K A_Count Fg
 z_Choice:ClZ w K mg cl "Choice" A_Choice
 m_Choice:MsL K A_Choice CN
 z_Bag:ClZ w K mg cl "Bag" A_Bag
 m_Bag:MsL K A_Bag N4
 z_Marks:ClZ w K mg cl "Marks" A_Marks
 m_Marks:MsL K A_Marks Fh
 z_Signs:ClZ w K mg cl "Signs" A_Signs
 m_Signs:MsL K A_Signs Fi
 z_Text:ClZ w K mg cl "Text" A_Text
 m_Text:MsL K A_Text K4
 z_Tree:ClZ w K mg cl "Tree" A_Tree
 m_Tree:MsL K A_Tree K5
 z_Folding:ClZ w K mg cl "Folding" A_Folding
 m_Folding:MsL K A_Folding zR
 MG_KIND_FOR:mg "KIND_FOR" = a0 (.ref cG)
 GT_KIND_FOR:Rl (cC w K cl) cG [("add","count"),("choose","choice"),("put","bag"),("take","bag"),("write","text"),("cut","text"),("mark","text"),("clear","text")]
 MG_ROOT:mg "ROOT" = a0 (.ref oD)
 GT_ROOT:Ri K oD [.str "",.int (0)]
 ff:∀f∈fL,Ga (cC w K cl) f
variable{A_Count A_Choice A_Bag A_Marks A_Signs A_Text A_Tree A_Folding cG oD:d8}(Z:ZZ P base w K mg cl A_Count A_Choice A_Bag A_Marks A_Signs A_Text A_Tree A_Folding cG oD)
include Z
def dfM{k t:Nat}{x:Str}{N:yp 0}{n:Nat}{body:Ms}
  (h:∀f cdv A outer s H E,N.Nodup->SSs (βO 0) k (YA x (aS<|top t) f cdv A outer s H E).nox (bY<|top t) body) (c:fsB N n (aS<|top t)=true:=by decide +kernel) (d:(x,t)∈dL:=by decide +kernel) (b:BdQ x x (top t) n (Za 0):=by(repeat intro _);rfl):jn (k+1) x t N n (εe 0):=by
 let b:=bdX b;let⟨f,a,_,_,_,_,_,_,_,_,_,l,o,p⟩:=Z.ds.at d;let⟨_,X,G⟩:=Z.XG;let⟨S,e⟩:=K3 c;let D:=Def.mk' X G a l o p (ps:=Za 0) (by rwa[e]);let F:=MP (C:=βO 0) (P:=P) (mg:=mg) (base:=base) (λ_ _ _ h=>h) Z.hbn (D4 (st:=top t) l o p) S λcdv A outer s H E=>h f cdv A outer s H E S.nd;rw[e]at F;let q:fA K x=f:=by rw[fA,a]
 rw[tC,q,dA,l];show⟨D,F⟩
def fdL{f:Str}(h:f∈fL:=by decide +kernel):Ga (βO 0) f:=Z.ff f h
def mtM{k n:Nat}{A:d8}{c x q:Str}{st:h_}{N:yp 0}{body:Ms}(z:ClZ w K mg cl c A)(y:MtX K A x q st)
  (h:∀f cdv A outer s H E,N.Nodup->SSs (βO 0) k (YA q (aS st) f cdv A outer s H E).nox (bY st) body) (c':fsB N n (aS st)=true:=by decide +kernel) (b:BdQ x q st n (Za 0):=by(repeat intro _);rfl):jo c A (k+1) x N n (εe 0):=by
 let b:=bdX b;let⟨f,a,i,_,_,_,_,_,_,_,_,_,l,o,p⟩:=y;let F:=D4 (st:=st) l o p;let⟨S,e⟩:=K3 c';let G:=MP (C:=βO 0) (P:=P) (mg:=mg) (base:=base) (λ_ _ _ h=>h) Z.hbn F S λcdv A outer s H E=>h f cdv A outer s H E S.nd;rw[e]at G;let r:mA K A x=f:=by rw[mA,a]
 rw[tM,r,dA,l];show⟨⟨z.cl,z.hc⟩,⟨a,i,p⟩,G,F.binds (ps:=Za 0)<|by rwa[e]⟩
def mkM{k n:Nat}{A:d8}{c q:Str}{st:h_}{N:yp 0}{body:Ms}(z:ClZ w K mg cl c A)(y:MtX K A "__init__" q st)
  (h:∀f cdv A outer s H E,N.Nodup->SSs (βO 0) k (YA q (aS st) f cdv A outer s H E).nox (bY st) body) (c':fsB N n (aS st)=true:=by decide +kernel) (b:BdQ "__init__" q st n (Za 0):=by(repeat intro _);rfl):B_ c A (k+1) N n (εe 0):=by
 let⟨_,m,a,b'⟩:=XH z y h c' b;show⟨z.cl,⟨z.mx,m.at_,m.fn,z.kc⟩,a,z.mg,b'⟩
def RM:jn 10 "law" 47 ["_law_script","_law_first","_law_hands_here","_law_deeds_here","_law_handed","_law_rows","_law_lost","_law_thing","_law_kind","_law_holder","_law_spot","_law_content","_law_leaf","_law_deed"] 1 J8:=by
 refine
  at2 (dfM Z λ_ _ _ _ _ _ _ nd=>?_:jn 1 "_law_cell_at" 37 ["_law_script","_law_k"] 2 oK) λ_=>
  at2 (dfM Z λ_ _ _ _ _ _ _ nd=>?_:jn 1 "_law_stream" 38 ["_law_cell","_law_many","_law_found","_law_number_here","_law_k"] 2 nB) λ_=>
  at2 (dfM Z λ_ _ _ _ _ _ _ nd=>?_:jn 2 "_law_hands" 39 ["_law_cell","_law_many","_law_letters","_law_xs","_law_stem","_law_at"] 2 AS) λ_=>
  at2 (dfM Z λ_ _ _ _ _ _ _ nd=>?_:jn 1 "_law_number" 40 ["_law_x","_law_cell"] 2 nC) λ_=>
  at2 (dfM Z λ_ _ _ _ _ _ _ nd=>?_:jn 1 "_law_text_act" 41 ["_law_xs","_law_thing","_law_places_here","_law_one","_law_other","_law_word"] 3 lF) λ_=>
  at2 (dfM Z λ_ _ _ _ _ _ _ nd=>?_:jn 2 "_law_act" 42 ["_law_xs","_law_cell","_law_hands_here","_law_places_here","_law_kind","_law_thing","_law_number_here"] 4 EO) λ_=>
  at2 (dfM Z λ_ _ _ _ _ _ _ nd=>?_:jn 1 "_law_places" 43 ["_law_name","_law_act_here","_law_place","_law_found","_law_k"] 2 kD) λ_=>
  at2 (dfM Z λ_ _ _ _ _ _ _ nd=>?_:jn 3 "_law_deeds" 44 ["_law_cells","_law_hands_here","_law_rows","_law_many","_law_places_here","_law_k","_law_seen","_law_act_here","_law_cell","_law_xs","_law_hand","_law_name"] 2 AV) λ_=>
  at2 (mkM Z Z.z_Tree Z.m_Tree.1 λ_ _ _ _ _ _ _ nd=>?_:B_ "Tree" A_Tree 1 ["self"] 1 gG) λ_=>
  at2 (Y3 Z.m_Tree.2.1 λ_ _ _ _ _ _ _ nd=>?_:jo "Tree" A_Tree 1 "fill" ["self","rows","lost","thing","kind","holder","spot"] 3 nE) λ_=>
  at2 (mkM Z Z.z_Folding Z.m_Folding.1 λ_ _ _ _ _ _ _ nd=>?_:B_ "Folding" A_Folding 3 ["self","base","rows","lost","thing","kind","holder","spot","content"] 2 eE) λ_=>
  at2 (dfM Z λ_ _ _ _ _ _ _ nd=>?_:jn 1 "stamp" 4 ["deed"] 1 AW) λ_=>
  at2 (dfM Z λ_ _ _ _ _ _ _ nd=>?_:jn 2 "rank" 5 ["deed","hand","n"] 1 DS) λ_=>
  at2 (dfM Z λ_ _ _ _ _ _ _ nd=>?_:jn 5 "in_order" 6 ["deeds","by_name","deed"] 1 pK) λ_=>
  at2 (Y3 Z.m_Tree.2.2.2.2.1 λ_ _ _ _ _ _ _ nd=>?_:jo "Tree" A_Tree 1 "kind_of" ["self","thing"] 2 cY) λ_=>
  at2 (Y3 Z.m_Tree.2.2.2.2.2.2.2.1 λ_ _ _ _ _ _ _ nd=>?_:jo "Tree" A_Tree 2 "takes" ["self","holder","spot"] 3 gY) λ_=>
  at2 (dfM Z λ_ _ _ _ _ _ _ nd=>?_:jn 1 "place_of" 15 ["spot","name","under","side","hand","n"] 2 iM) λ_=>
  at2 (dfM Z λ_ _ _ _ _ _ _ nd=>?_:jn 2 "stand_of" 30 ["spot","name"] 2 lJ) λ_=>
  at2 (Y3 Z.m_Tree.2.2.2.1 λ_ _ _ _ _ _ _ nd=>?_:jo "Tree" A_Tree 3 "hear_make" ["self","name","act","word","kind","holder","spot"] 3 kF) λ_=>
  at2 (Y3 Z.m_Tree.2.2.1 λ_ _ _ _ _ _ _ nd=>?_:jo "Tree" A_Tree 4 "hear" ["self","deed","name","seen","act"] 2 nG) λ_=>
  at2 (mkM Z Z.z_Count Z.m_Count.1 λ_ _ _ _ _ _ _ nd=>?_:B_ "Count" A_Count 1 ["self"] 1 kG) λ_=>
  at2 (mkM Z Z.z_Choice Z.m_Choice.1 λ_ _ _ _ _ _ _ nd=>?_:B_ "Choice" A_Choice 1 ["self"] 1 jA) λ_=>
  at2 (mkM Z Z.z_Bag Z.m_Bag.1 λ_ _ _ _ _ _ _ nd=>?_:B_ "Bag" A_Bag 1 ["self"] 1 nH) λ_=>
  at2 (mkM Z Z.z_Signs Z.m_Signs.1 λ_ _ _ _ _ _ _ nd=>?_:B_ "Signs" A_Signs 1 ["self"] 1 kH) λ_=>
  at2 (mkM Z Z.z_Marks Z.m_Marks.1 λ_ _ _ _ _ _ _ nd=>?_:B_ "Marks" A_Marks 1 ["self"] 1 kI) λ_=>
  at2 (mkM Z Z.z_Text Z.m_Text.1 λ_ _ _ _ _ _ _ nd=>?_:B_ "Text" A_Text 3 ["self"] 1 mB) λ_=>
  at2 (dfM Z λ_ _ _ _ _ _ _ nd=>?_:jn 5 "leaf_of" 26 ["kind"] 1 bR) λ_=>
  at2 (ZG Z.m_Folding.2.1 λ_ _ _ _ _ _ _ nd=>?_:jo "Folding" A_Folding 6 "add_leaf" ["self","thing","kind","leaf"] 3 iO) λ_=>
  at2 (ZG Z.m_Folding.2.2.2.2.2.1 λ_ _ _ _ _ _ _ nd=>?_:jo "Folding" A_Folding 7 "hear_tree" ["self","deed","fate","act"] 2 gM) λ_=>
  at2 (dfM Z λ_ _ _ _ _ _ _ nd=>?_:jn 1 "kind_for" 27 ["word"] 1 lK) λ_=>
  at2 (XH Z.z_Count Z.m_Count.2.2.1 λ_ _ _ _ _ _ _ nd=>?_:jo "Count" A_Count 1 "hear" ["self","deed","act"] 2 lM) λ_=>
  at2 (dfM Z λ_ _ _ _ _ _ _ nd=>?_:jn 1 "covers" 3 ["seen","name","hand","n"] 2 fW) λ_=>
  at2 (XH Z.z_Choice Z.m_Choice.2.2.1 λ_ _ _ _ _ _ _ nd=>?_:jo "Choice" A_Choice 2 "hear" ["self","deed","name","seen","act","unseen"] 2 jL) λ_=>
  at2 (XH Z.z_Bag Z.m_Bag.2.2.1 λ_ _ _ _ _ _ _ nd=>?_:jo "Bag" A_Bag 2 "hear" ["self","deed","name","seen","act"] 2 pQ) λ_=>
  at2 (dfM Z λ_ _ _ _ _ _ _ nd=>?_:jn 2 "places_of" 16 ["deed","name","seen","act","word","thing","under","side","signs","hand","n","places","k"] 1 jB) λ_=>
  at2 (XH Z.z_Signs Z.m_Signs.2.2.2.1 λ_ _ _ _ _ _ _ nd=>?_:jo "Signs" A_Signs 3 "write" ["self","deed","signs","place","sign"] 2 jO) λ_=>
  at2 (dfM Z λ_ _ _ _ _ _ _ nd=>?_:jn 1 "rank_of" 13 ["place"] 1 oO) λ_=>
  at2 (dfM Z λ_ _ _ _ _ _ _ nd=>?_:jn 2 "row_rank" 14 ["row"] 1 eG) λ_=>
  at2 (XH Z.z_Signs Z.m_Signs.2.1 λ_ _ _ _ _ _ _ nd=>?_:jo "Signs" A_Signs 5 "cut" ["self","places","gone","place"] 2 nK) λ_=>
  at2 (XH Z.z_Marks Z.m_Marks.2.2.1 λ_ _ _ _ _ _ _ nd=>?_:jo "Marks" A_Marks 1 "mark" ["self","deed","name","seen","act"] 2 lO) λ_=>
  at2 (dfM Z λ_ _ _ _ _ _ _ nd=>?_:jn 2 "holed" 18 ["mark","deed","name","first","last","word","holes","clear_name","seen","act"] 2 qO) λ_=>
  at2 (XH Z.z_Marks Z.m_Marks.2.1 λ_ _ _ _ _ _ _ nd=>?_:jo "Marks" A_Marks 3 "clear" ["self","deed"] 2 jQ) λ_=>
  at2 (XH Z.z_Text Z.m_Text.2.2.1 λ_ _ _ _ _ _ _ nd=>?_:jo "Text" A_Text 6 "hear" ["self","deed","word"] 2 nM) λ_=>
  at2 (ZG Z.m_Folding.2.2.2.2.1 λ_ _ _ _ _ _ _ nd=>?_:jo "Folding" A_Folding 8 "hear" ["self","deed","act"] 2 cZ) λ_=>
  at2 (XH Z.z_Count Z.m_Count.2.1 λ_ _ _ _ _ _ _ nd=>?_:jo "Count" A_Count 1 "content" ["self"] 1 mD) λ_=>
  at2 (XH Z.z_Choice Z.m_Choice.2.1 λ_ _ _ _ _ _ _ nd=>?_:jo "Choice" A_Choice 1 "content" ["self"] 1 kJ) λ_=>
  at2 (XH Z.z_Bag Z.m_Bag.2.1 λ_ _ _ _ _ _ _ nd=>?_:jo "Bag" A_Bag 1 "content" ["self"] 1 oZ) λ_=>
  at2 (XH Z.z_Marks Z.m_Marks.2.2.2.1 λ_ _ _ _ _ _ _ nd=>?_:jo "Marks" A_Marks 1 "rows" ["self"] 1 lS) λ_=>
  at2 (XH Z.z_Signs Z.m_Signs.2.2.1 λ_ _ _ _ _ _ _ nd=>?_:jo "Signs" A_Signs 5 "rows" ["self"] 1 lV) λ_=>
  at2 (XH Z.z_Text Z.m_Text.2.1 λ_ _ _ _ _ _ _ nd=>?_:jo "Text" A_Text 6 "content" ["self"] 1 nN) λ_=>
  at2 (ZG Z.m_Folding.2.2.2.1 λ_ _ _ _ _ _ _ nd=>?_:jo "Folding" A_Folding 7 "content_of" ["self","thing"] 2 dC) λ_=>
  at2 (dfM Z λ_ _ _ _ _ _ _ nd=>?_:jn 1 "row_thing" 31 ["row"] 1 sV) λ_=>
  at2 (Y3 Z.m_Tree.2.2.2.2.2.2.1 λ_ _ _ _ _ _ _ nd=>?_:jo "Tree" A_Tree 4 "rows" ["self"] 1 nQ) λ_=>
  at2 (Y3 Z.m_Tree.2.2.2.2.2.1 λ_ _ _ _ _ _ _ nd=>?_:jo "Tree" A_Tree 1 "lost" ["self"] 1 jC) λ_=>
  at2 (ZG Z.m_Folding.2.2.1 λ_ _ _ _ _ _ _ nd=>?_:jo "Folding" A_Folding 8 "base" ["self"] 1 iR) λ_=>
  at2 (dfM Z λ_ _ _ _ _ _ _ nd=>?_:jn 9 "fold" 35 ["base","deeds","folding","deed"] 2 AY) λ_=>
  at2 (dfM Z λ_ _ _ _ _ _ _ nd=>?_:jn 1 "empty" 34 [] 0 qQ) λ_=>
  at2 (dfM Z λ_ _ _ _ _ _ _ nd=>?_:jn 1 "_law_key" 45 ["_law_deed"] 1 EY) λ_=>
  at2 (dfM Z λ_ _ _ _ _ _ _ nd=>?_:jn 1 "_law_words" 46 ["_law_kind"] 1 m_words) λ_=>
  dfM Z λ_ _ _ _ _ _ _ nd=>?_
 all_goals
  (conv=>arg 4;whnf)
  first|unfold rO|unfold wF|unfold AR|unfold wG|unfold pH|unfold J5|unfold wH|unfold AU|unfold fZ|unfold nD|unfold eC|unfold tU|unfold DR|unfold pJ|unfold iL|unfold lI|unfold pL|unfold pM|unfold fE|unfold nF|unfold fF|unfold eQ|unfold iN|unfold fG|unfold fH|unfold gH|unfold rQ|unfold eF|unfold dJ|unfold pN|unfold lL|unfold wI|unfold jK|unfold pP|unfold nI|unfold jN|unfold rR|unfold pR|unfold nJ|unfold lN|unfold AX|unfold jP|unfold nL|unfold eR|unfold gJ|unfold fJ|unfold jR|unfold lQ|unfold lT|unfold iP|unfold dB|unfold nO|unfold nP|unfold nR|unfold iQ|unfold DT|unfold AZ|unfold EX|unfold B0|unfold J7
  repeat' first|((with_reducible show SSs _ _ _ [_] _);refine Oc ?_)|((with_reducible show SE _ _ _ _ (gL _ 0 _ aC));refine anE (by assumption) λc r=>anE r λm r=>anE r λg r=>anE r λq b=>Ly c m g q b)|((with_reducible show SE _ _ _ _ (pF _ Bool.false _));refine anE (by assumption) λD G=>LX D G ?_ (hb:=mbL))|((with_reducible show SSt _ _ _ _ (aY _<|bB _ _ _ _ _));refine Tv nd rfl rfl rfl rfl (by rfl) (by rfl) ?_ λ_ _ _ _ nd=>⟨?_,?_,?_⟩)|((with_reducible show SE _ _ _ _ (bM _ 0 _ _ aC));refine Lx ?_ ?_)|((with_reducible show SE _ _ _ _ (mV _));refine Qn _)|((with_reducible show SA _ _ _ _ (aA _ _));refine O7 ?_ ?_)|((with_reducible show SE _ _ _ _ (mC<|PV.int _));show Qo)|((with_reducible show SA _ _ _ _ aC);show QH)|((with_reducible show SE _ _ _ _ (b7 _ _));refine Th ?_ ?_)|((with_reducible show SSs _ _ _ _ (aG _ _));refine L7 ?_ ?_)|((with_reducible show SG _ _ _ _ (gN _));refine O9 nd)|((with_reducible show SE _ _ _ (.BinOp _ _ _ _) (aB _ _ _));refine Qr ?_ ?_ ?_)|((with_reducible show SGs _ _ _ _ (gCn _ _));refine O' ?_ ?_)|((with_reducible show SSt _ _ _ _ (aP _));refine QQ ?_)|((with_reducible show SE _ _ _ _ (mC<|PV.str _));show Qq)|((with_reducible show SE _ _ _ _ (aT _));refine QI ?_)|((with_reducible show ST _ _ _ _ (aR<|aB _ _ _));refine QA ?_ ?_ ?_)|((with_reducible show SSt _ _ _ _ (aY _ _));refine QN nd ?_)|((with_reducible show SSt _ _ _ _ (bG _ _ _));refine T1 ?_ ?_ ?_)|((with_reducible show SSs _ _ _ _ bP);show Oa)|((with_reducible show OpS _ _ _ _ aL);show On)|((with_reducible show SE _ _ _ _ (mUn (aU _) _));refine Re (fdL Z) ?_)|((with_reducible show OpS _ _ _ _ cK);show Qx)|((with_reducible show OpS _ _ _ _ bK);show Rt)|((with_reducible show SE _ _ _ _ (aW _ _ _));refine anE (by assumption) λD G=>s_call D G ?_)|((with_reducible show SE _ _ _ _ (cO _));refine QJ ?_)|((with_reducible show SI _ _ _ _ _ (aV _));refine QR ?_)|((with_reducible show SG _ _ _ _ (gTp _ _));refine QM ?_)|((with_reducible show SGs _ _ _ _ gNl);show QL)|((with_reducible show SSt _ _ _ _ (cN _ _ _));refine Rf (fdL Z) ?_ ?_)|((with_reducible show SSt _ _ _ _ (iU _));refine QP ?_)|((with_reducible show SE _ _ _ _ (bM _ _ _ _ _));refine OA ?_ ?_ ?_)|((with_reducible show SSt _ _ _ _ (dH _ _ _));refine QS ?_ ?_ ?_)|((with_reducible show SE _ _ _ _ (bB _ _ _ _ _));refine Tu rfl rfl (by rfl) (by rfl) ?_ λ_ _ _ _ nd=>⟨?_,?_,?_⟩)|((with_reducible show SSt _ _ _ _ (jZ _ _));refine QO ?_ ?_)|((with_reducible show STs _ _ _ _ dQ);show Of)|((with_reducible show SO _ _ _ _ (mP _));refine O6 ?_)|((with_reducible show SE _ _ _ _ (mSl _ _ _));refine SY ?_ ?_ ?_)|((with_reducible show SO _ _ _ _ mG);show O5)|((with_reducible show SE _ _ _ _ (βt _));refine oG QK PyProof.Rows.Boot.«len» ?_ (hb:=mbL))|((with_reducible show SE _ _ _ _ (δ8 (onL bA) _ _));refine T2 PySem.F.plainAttrs_list PySem.F.slot_list_append PySem.F.type_list_append HK ?_ ?_)|((with_reducible show SSt _ _ _ _ (kC _ _ _));refine OC ?_ ?_ ?_)|((with_reducible show OpS _ _ _ _ An);show Qw)|((with_reducible show OpS _ _ _ _ Aj);show Qu)|((with_reducible show SE _ _ _ _ (mCB fC _));refine BQ Lz PyProof.Rows.Boot.«list» ?_ (hb:=mbL))|((with_reducible show SE _ _ _ _ (mC PV.non));show Qp)|((with_reducible show OpS _ _ _ _ Al);show Qv)|((with_reducible show SE _ _ _ _ kQ);show L5)|((with_reducible show OpS _ _ _ _ cX);show OV)|((with_reducible show ST _ _ _ (.BoolOp _ _ _) _);refine SW.t ?_)|((with_reducible show OpS _ _ _ _ jJ);show MW)|((with_reducible show SI _ _ _ _ _ (mQ _));refine Od ?_ (hb:=mbL))|((with_reducible show OpS _ _ _ _ FY);show Qy)|((with_reducible show SE _ _ _ _ (mIf _ _ _));refine KZ ?_ ?_ ?_)|((with_reducible show SE _ _ _ (.Compare _ _ _ _) (aB _ _ _));refine Qs ?_ ?_ ?_)|((with_reducible show ST _ _ _ _ (qE _));refine QB ?_)|((with_reducible show OpS _ _ _ _ vLt);show SS)|((with_reducible show SI _ _ _ _ _ (qG _));refine Oe ?_ (hb:=mbL))|((with_reducible show STs _ _ _ [_] _);refine Og ?_)|((with_reducible show SW _ _ _ _ (Ar _ _));refine w_or ?_ ?_)|((with_reducible show SW _ _ _ (.BoolOp _ [_] _) _);refine QC ?_)|((with_reducible show OpS _ _ _ _ vGt);show SU)|((with_reducible show SE _ _ _ _ (mCB sS _));refine oG OS PyProof.Rows.Boot.«min» ?_ (hb:=mbL))|((with_reducible show SE _ _ _ _ (mCB sT _));refine oG OT PyProof.Rows.Boot.«max» ?_ (hb:=mbL))|((with_reducible show SE _ _ _ _ (rN _ _));refine LS ?_ ?_)|((with_reducible show SE _ _ _ _ (mMt cF qL _ _));refine Os Vt VJ PySem.F.type_dict_get Ow ?_ ?_)|((with_reducible show SE _ _ _ _ (mCB Ds _));refine oG R9 PyProof.Rows.Boot.«sum» ?_ (hb:=mbL))|((with_reducible show SE _ _ _ _ (mCB G3 _));refine oG Au PyProof.Rows.Boot.«isinstance» ?_ (hb:=mbL))|((with_reducible show SE _ _ _ _ (mC<|PV.ty "str"));refine O2 PyProof.Rows.Boot.«str» (hb:=mbL))|((with_reducible show SW _ _ _ _ (yL _ _));refine w_and ?_ ?_)|((with_reducible show SW _ _ _ (.BoolOp _ [_] _) _);refine O3 ?_)|((with_reducible show SE _ _ _ _ (kZ _ Bool.false _ _));refine anE (by assumption) λD G=>IJ D G ?_ (hb:=mbL))|((with_reducible show OpS _ _ _ _ dR);show Gq)|((with_reducible show SE _ _ _ _ (xK cF fN _));refine MS Vt PySem.F.slot_dict_items PySem.F.type_dict_items Ir ?_)|((with_reducible show OpS _ _ _ _ vIs);show SX)|((with_reducible show SE _ _ _ _ (mMt LC vQ _ _));refine Os PySem.F.plainAttrs_str PySem.F.slot_str_join PySem.F.type_str_join OD ?_ ?_)|((with_reducible show SE _ _ _ _ (mCB mO _));refine BQ L6 PyProof.Rows.Boot.«tuple» ?_ (hb:=mbL))|((with_reducible show SE _ _ _ _ (mCB kU _));refine oG Lo PyProof.Rows.Boot.«sorted» ?_ (hb:=mbL))|((with_reducible show SE _ _ _ _ (xK cF yS _));refine MS Vt PySem.F.slot_dict_values PySem.F.type_dict_values m_values ?_)|((with_reducible show SE _ _ _ _ (mC<|.tup _));refine OE Z.MG_ROOT Z.GT_ROOT)|((with_reducible show OpS _ _ _ _ Aq);show KY)|((with_reducible show SE _ _ _ _ (mUn (vGd _) _));refine LR Z.MG_KIND_FOR Z.GT_KIND_FOR ?_)|((with_reducible show SSt _ _ _ _ (EF _ _ _));refine Ii (fdL Z) ?_ ?_)|((with_reducible show OpS _ _ _ _ vLe);show SV)|((with_reducible show SE _ _ _ _ (mC<|PV.bl _));show SR)|((with_reducible show SI _ _ _ _ _ (ID _));refine Rk ?_ (hb:=mbL))|((with_reducible show SE _ _ _ _ (mMt cF vY _ _));refine Os Vt PySem.F.slot_dict_pop PySem.F.type_dict_pop OL ?_ ?_)|((with_reducible show SI _ _ _ _ _ (vR _ _));refine OG _ (λ_=>⟨_,_,_,rfl⟩) ?_)|((with_reducible show SE _ _ _ _ (gL _ _ _ _));refine anE (by assumption) λc r=>anE r λm r=>anE r λg r=>anE r λq b=>OB c m g q b ?_)|((with_reducible show SE _ _ _ _ (mUn vO _));refine Gc ?_ mbL mbL)|((with_reducible show SE _ _ _ _ (mUn (wB _ _) _));refine LU ?_ ?_ ?_)|((with_reducible show SE _ _ _ _ (wA _));refine anE (by assumption) λD G=>LQ D G)|((with_reducible show OpS _ _ _ _ AK);show Ry)|((with_reducible show SE _ _ _ _ (vA _ _));refine QE ?_ ?_)|((with_reducible show SE _ _ _ (.BoolOp _ [_] _) _);refine QD ?_)|((with_reducible show ST _ _ _ _ (aR _));refine Qz ?_)|((with_reducible show SE _ _ _ _ (rK _ _ _));refine OJ _ _ ?_)|((with_reducible show SSt _ _ _ _ lZ);show Rm)|((with_reducible show AC _ _ _ _ _ _);refine mtN (by assumption) (by decide) ?_)|((with_reducible show AC _ _ _ _ _ _);show Oz)|unfold pG|unfold pI|unfold oM|unfold kE|unfold rP|unfold oY|unfold fV|unfold lH|unfold pO|unfold jM|unfold gI|unfold fO|unfold wL|unfold tW|unfold oP
end
abbrev spL(K:wc):Sp:=λvs H Q _=>∃(a:d8)(ns:Zg 0),vs=[.ref a]/\Ha H/\W9 a (Yc 0)/\ns.length<=63/\∀H',Q (.bl true) H'
def all_mk{l:PySem.W.OpenLaw}{w:fI}{K:wc}{h:e_}{mg:(Str->T_ 0)}{fa A_Count A_Choice A_Bag A_Marks A_Signs A_Text A_Tree A_Folding cG oD:d8}(X:K.In h)(G:h.Ns Uz mg)(vd:mg "law" = a0 (.ref fa))(hbn:∀x∈bsL,mg x=a7)
  (ds:DsL K dL)
  (av:ClX K A_Count "Count" fL)
  (m_Count:MsL K A_Count Fg)
  (ah:ClX K A_Choice "Choice" fL)
  (m_Choice:MsL K A_Choice CN)
  (cf:ClX K A_Bag "Bag" fL)
  (m_Bag:MsL K A_Bag N4)
  (au:ClX K A_Marks "Marks" fL)
  (m_Marks:MsL K A_Marks Fh)
  (ar:ClX K A_Signs "Signs" fL)
  (m_Signs:MsL K A_Signs Fi)
  (bf:ClX K A_Text "Text" fL)
  (m_Text:MsL K A_Text K4)
  (bg:ClX K A_Tree "Tree" fL)
  (m_Tree:MsL K A_Tree K5)
  (af:ClX K A_Folding "Folding" fL)
  (m_Folding:MsL K A_Folding zR)
  {aj:Y8 0} {bo:Nat} (E7:WO K Uz "KIND_FOR" = a0 (a0 (.ref cG))) (di:K.lookup cG=a0 ⟨.type "dict",a7,.dict aj bo,#[]⟩) (df:GEs w.params [("add","count"),("choose","choice"),("put","bag"),("take","bag"),("write","text"),("cut","text"),("mark","text"),("clear","text")] aj.toList) (dh:(cG == Uy)=false)
  {az:y_ 0} {dk:Nat} {fw:Array (T_ 0)} (Pk:WO K Uz "ROOT" = a0 (a0 (.ref oD))) (gi:K.lookup oD=a0 ⟨.type "tuple",a7,.seq az dk,fw⟩) (ie:aI [.str "",.int<|0] az.toList) (gg:az.size<=w9)
  : ∃fd:UH,(∀(s:d7)(v:d6),αr ⟨[v],[]⟩ [("_law_script",v)])/\∀base:e_,K.In base->δf mg->cI l.prog w K mg base CX0 10 fa fd ["_law_script"] (spL K):=by
 let Z:∀b,ZZ l.prog b w K mg (clF A_Count A_Choice A_Bag A_Marks A_Signs A_Text A_Tree A_Folding) A_Count A_Choice A_Bag A_Marks A_Signs A_Text A_Tree A_Folding cG oD:=λ_=>⟨hbn,⟨_,X,G⟩,ds,⟨(if_pos rfl),av.cls9,Z9 av.n,av.mx,av.kc⟩,m_Count,⟨((if_neg<|by decide).trans<|if_pos rfl),ah.cls9,Z9 ah.n,ah.mx,ah.kc⟩,m_Choice,⟨((if_neg<|by decide).trans<|(if_neg<|by decide).trans<|if_pos rfl),cf.cls9,Z9 cf.n,cf.mx,cf.kc⟩,m_Bag,⟨((if_neg<|by decide).trans<|(if_neg<|by decide).trans<|(if_neg<|by decide).trans<|if_pos rfl),au.cls9,Z9 au.n,au.mx,au.kc⟩,m_Marks,⟨((if_neg<|by decide).trans<|(if_neg<|by decide).trans<|(if_neg<|by decide).trans<|(if_neg<|by decide).trans<|if_pos rfl),ar.cls9,Z9 ar.n,ar.mx,ar.kc⟩,m_Signs,⟨((if_neg<|by decide).trans<|(if_neg<|by decide).trans<|(if_neg<|by decide).trans<|(if_neg<|by decide).trans<|(if_neg<|by decide).trans<|if_pos rfl),bf.cls9,Z9 bf.n,bf.mx,bf.kc⟩,m_Text,⟨((if_neg<|by decide).trans<|(if_neg<|by decide).trans<|(if_neg<|by decide).trans<|(if_neg<|by decide).trans<|(if_neg<|by decide).trans<|(if_neg<|by decide).trans<|if_pos rfl),bg.cls9,Z9 bg.n,bg.mx,bg.kc⟩,m_Tree,⟨((if_neg<|by decide).trans<|(if_neg<|by decide).trans<|(if_neg<|by decide).trans<|(if_neg<|by decide).trans<|(if_neg<|by decide).trans<|(if_neg<|by decide).trans<|(if_neg<|by decide).trans<|if_pos rfl),af.cls9,Z9 af.n,af.mx,af.kc⟩,m_Folding,Z9 E7,⟨dh,by decide,aj,bo,di,df⟩,Z9 Pk,⟨_,az,dk,[.str "",.int<|0],gi,rfl,rfl,gg,ie,rfl,rfl⟩,λf i c a hc=>clI (p:=λa=>Cls K a/\jG K a f) hc ⟨av.cls9,av.nf.at i⟩ ⟨ah.cls9,ah.nf.at i⟩ ⟨cf.cls9,cf.nf.at i⟩ ⟨au.cls9,au.nf.at i⟩ ⟨ar.cls9,ar.nf.at i⟩ ⟨bf.cls9,bf.nf.at i⟩ ⟨bg.cls9,bg.nf.at i⟩ ⟨af.cls9,af.nf.at i⟩⟩;let⟨f,a,oc,kV,doc,pm,cdv,ct,od,an,osl,l',c,k⟩:=(Z h).ds.at (x:="law") (i:=47) (by decide +kernel);cases vd.symm.trans (Z9 a)
 refine⟨_,λs v=>.of_eq (fd:=US "law" "law" (dS<|top 47) (bY<|top 47) (aS<|top 47) .none kV doc pm an cdv ct) rfl,λbase _ _=>?_⟩;let⟨_,F⟩:=RM<|Z base;let q:fA K "law" = fa:=by rw[fA,a]
 rw[q,dA,l']at F;refine F.imp λvs H Q E hh=>?_;let⟨a,ns,rfl,hO,hS,hl,hq⟩:=hh;show Oi (C:=cC w K<|clF A_Count A_Choice A_Bag A_Marks A_Signs A_Text A_Tree A_Folding) hO hS (main ns hl) hq
def walk{l:PySem.W.OpenLaw}{q:f_}{loose:yp 0}{XP:((Str->T_ 0))->e_->Prop}{YP:fI->e_->Prop}{d:DefRec}{K:Params->wc}(hn:l.most=a0 63)(jf:d.params.defaults=[])
  (hY:∀(w:fI)(h:e_),YP w h->(Zh 0).In h)
  (F:∀(w:fI)(mg:(Str->T_ 0))(fa:d8)(h:e_),(Zh 0).In h->h.Ns Uz mg->mg d.name=a0 (.ref fa)->
   ∃fd:UH,(∀(s:d7)(u:d6),αr ⟨[u],[]⟩ [("_law_script",u)])/\∀base:e_,(Zh 0).In base->δf mg->cI l.prog w (Zh 0) mg base CX0 10 fa fd ["_law_script"] (spL (Zh 0))):
  αh [] (λf vs=>PySem.call f vs):=
 _L.walk_of (n:=63) (k:=10) (x:="_law_script") (CX:=λ_=>CX0) (sp:=λw=>spL<|K w.params) hn (by decide) jf ⟨rfl,by decide,by decide,rfl⟩ hY F (λw H a ns hl hO hS=>⟨a,ns,rfl,hO,hS,hl,λ_=>rfl⟩) λ_ _ _ _ _ z=>z
end _K
open PySem PySem.W PyProof.Rows
end
set_option maxRecDepth 100000 in
set_option maxHeartbeats 0 in
theorem PySem.Challenge.cw_copymeet_k63_each_leaf_hears_its_own_holds : PySem.Challenge.rw_copymeet_k63_each_leaf_hears_its_own.Holds := by
 refine hdA ?_
 k_fill
 refine _K.walk (l:=PySem.Challenge.rw_copymeet_k63_each_leaf_hears_its_own) rfl rfl (fun w h Y=>PySem.W.kIn_of Y) ?F
 case F=>
  intro w mg fa h KX G hmg
  have hbn:∀ x∈_K.bsL,mg x=none:=fun x hx=>by
   iterate 12 (rcases List.mem_cons.mp hx with rfl | hx; · exact PySem.W.mg_none_of KX G (by k_is))
   cases hx
  refine' _K.all_mk KX G hmg hbn ?h0 ?h1 ?h2 ?h3 ?h4 ?h5 ?h6 ?h7 ?h8 ?h9 ?h10 ?h11 ?h12 ?h13 ?h14 ?h15 ?h16 ?h17 ?h18 ?h19 ?h20 ?h21 ?h22 ?h23 ?h24
  (case h0=>repeat' first | exact trivial | refine ⟨⟨_,by k_is,_,_,_,_,_,_,_,_,_,by k_is,by k_is,by k_is⟩,?_⟩)
  (case h1=>exact ⟨by k_is,by k_is,by k_is,by k_is,by k_is,by k_is,by k_is,by k_is,by k_is,by k_is,by k_is,by k_is,by k_is,by k_is,by k_is,by k_is,trivial⟩)
  (case h2=>repeat' first | exact trivial | refine ⟨⟨_,by k_is,by k_is,_,_,_,_,_,_,_,_,_,by k_is,by k_is,by k_is⟩,?_⟩)
  (case h3=>exact ⟨by k_is,by k_is,by k_is,by k_is,by k_is,by k_is,by k_is,by k_is,by k_is,by k_is,by k_is,by k_is,by k_is,by k_is,by k_is,by k_is,trivial⟩)
  (case h4=>repeat' first | exact trivial | refine ⟨⟨_,by k_is,by k_is,_,_,_,_,_,_,_,_,_,by k_is,by k_is,by k_is⟩,?_⟩)
  (case h5=>exact ⟨by k_is,by k_is,by k_is,by k_is,by k_is,by k_is,by k_is,by k_is,by k_is,by k_is,by k_is,by k_is,by k_is,by k_is,by k_is,by k_is,trivial⟩)
  (case h6=>repeat' first | exact trivial | refine ⟨⟨_,by k_is,by k_is,_,_,_,_,_,_,_,_,_,by k_is,by k_is,by k_is⟩,?_⟩)
  (case h7=>exact ⟨by k_is,by k_is,by k_is,by k_is,by k_is,by k_is,by k_is,by k_is,by k_is,by k_is,by k_is,by k_is,by k_is,by k_is,by k_is,by k_is,trivial⟩)
  (case h8=>repeat' first | exact trivial | refine ⟨⟨_,by k_is,by k_is,_,_,_,_,_,_,_,_,_,by k_is,by k_is,by k_is⟩,?_⟩)
  (case h9=>exact ⟨by k_is,by k_is,by k_is,by k_is,by k_is,by k_is,by k_is,by k_is,by k_is,by k_is,by k_is,by k_is,by k_is,by k_is,by k_is,by k_is,trivial⟩)
  (case h10=>repeat' first | exact trivial | refine ⟨⟨_,by k_is,by k_is,_,_,_,_,_,_,_,_,_,by k_is,by k_is,by k_is⟩,?_⟩)
  (case h11=>exact ⟨by k_is,by k_is,by k_is,by k_is,by k_is,by k_is,by k_is,by k_is,by k_is,by k_is,by k_is,by k_is,by k_is,by k_is,by k_is,by k_is,trivial⟩)
  (case h12=>repeat' first | exact trivial | refine ⟨⟨_,by k_is,by k_is,_,_,_,_,_,_,_,_,_,by k_is,by k_is,by k_is⟩,?_⟩)
  (case h13=>exact ⟨by k_is,by k_is,by k_is,by k_is,by k_is,by k_is,by k_is,by k_is,by k_is,by k_is,by k_is,by k_is,by k_is,by k_is,by k_is,by k_is,trivial⟩)
  (case h14=>repeat' first | exact trivial | refine ⟨⟨_,by k_is,by k_is,_,_,_,_,_,_,_,_,_,by k_is,by k_is,by k_is⟩,?_⟩)
  (case h15=>exact ⟨by k_is,by k_is,by k_is,by k_is,by k_is,by k_is,by k_is,by k_is,by k_is,by k_is,by k_is,by k_is,by k_is,by k_is,by k_is,by k_is,trivial⟩)
  (case h16=>repeat' first | exact trivial | refine ⟨⟨_,by k_is,by k_is,_,_,_,_,_,_,_,_,_,by k_is,by k_is,by k_is⟩,?_⟩)
  case h17|h18|h21|h22=>k_is
  (case h19=>exact ⟨rfl,⟨_,rfl⟩,⟨_,rfl⟩,rfl,⟨_,rfl⟩,⟨_,rfl⟩,rfl,⟨_,rfl⟩,⟨_,rfl⟩,rfl,⟨_,rfl⟩,⟨_,rfl⟩,rfl,⟨_,rfl⟩,⟨_,rfl⟩,rfl,⟨_,rfl⟩,⟨_,rfl⟩,rfl,⟨_,rfl⟩,⟨_,rfl⟩,rfl,⟨_,rfl⟩,⟨_,rfl⟩,trivial⟩)
  (case h20=>decide +kernel)
  (case h23=>exact (.cons ⟨_,rfl⟩ (.cons ⟨_,rfl⟩ .nil)))
  (case h24=>decide +kernel)
