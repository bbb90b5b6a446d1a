import PyProof.Rows.All
import Wide.All
import OpenK.AllK
import Wide.FinOn
import Lean
import PyProof.EqAt
import PyProof.EqKinds
import PyProof.TupleCall
import PyProof.NeKinds
import KE.KDictOf
import PyProof.AttrMissHeap
import PyProof.WalksMore
import PyProof.MeetsDict
import KE.KDictList
import KE.KRevIter
import PyProof.DictItemsLoops
import PyProof.DictWalks
import KE.KSortTup
import KE.KDictSum
import PyProof.SumAny
import PyProof.Conv_int_bool
import PyProof.Conv_int
import KE.KRevSl
import PyProof.MeetsStr
import PyProof.StrCalls3
import PyProof.Rows.TupDisplay
import PyProof.ZipIter
import PyProof.Draws
import PyProof.EnumMake
import PyProof.PureStr
import PyProof.MeetsStr3
import PyProof.MeetsStr2
import PyProof.Rows.StrSplitMax
import KE.KIntText
import PyProof.Rows.StrKeys3
import PyProof.FString
import PyProof.StrBlock
import PyProof.StrReplace2
import PyProof.ReprRoads
import KE.IntBitsLaws
import PyProof.SliceList
import PyProof.MinMaxWalk
import PySem.Challenge.RW_copymeet_k81_deeds_done
namespace PySem.W.Fast
set_option compiler.extract_closed false in
local macro_rules|`(universe $x)=>do let s:=x.getId.toString.toList.tail.map fun c=>if c=='!' then 22 else c.toNat-42;return Lean.mkNullNode (← (Array.range (s.length/10)).mapM fun i=>do return (← `(theorem $(Lean.mkIdent <|.mkSimple s!"tw{((s.drop (i*10)).take 10).foldl (85*·+·) 0}") : True:=⟨⟩)).raw.rewriteBottomUp (·.setInfo .none))
universe «U;bQ[5-!M`UA`U[nCmN,UNIeI\:M=;UW.~Y-6~8*U^.j9g4tWKUl<grP2QMbUm>l?XOw+SUmk`\QLd}6UtBUz<d0^S.M:yo>+hD>VD{?o-ylmn.Nr^^qgOm-V^LRY~E+OOVeXS.4>m04Vn=}aYkt^LVyLXE2y/VOV{}Z1LJptMV}SgFkjv.1W15RshpT}mW5_j+U3nY:WCY8wC`A[LWL.r+>l<eD*PmYD,_Y!8WbW<*?h:sBWnOZSLy~T=WxVm_upKdSX8}I`jgAGrX=l,v{lAQ8X>bgkisQMUXOYg*4.;xPXPeW2e3xsDXQV3j/;I-2XR/\*nlk6|XpS;qMT0t0Xz8sNVry>t.e`TlvV:d3Y7b9pFubv<Y82RlS>osuY8:vZ^i6oKYFihs\S*sIYT7MIg9FMzYWcYf;PQ<}Y^sV}|Z~xXY`K2NW/RWiYiylpIRt/FYuySR3i^r>Z96Df/=ro6ZqfZk/x]HAZsF3R}}}DuZ|0CdA_RCt[3q}A-w?ZS[GQ8bAS]]1[O8Hn~N=_8[Q>Rg,g0aK[cq[hPTR]:[fY7YbnAI7[sj*+]]I!J[t5E{a2iU?[vNN7!Ag/f\*lDx3tPu]\1C<`2>ksX/+L/ohqzOV\Rv1[1?EN1\TD<|yGgSp\VD|lLldVf\ao|!:.-8!\l?mWD1H:\\qHLb7oVXg\uFwf=f6zS\v/okhKW[L\|^!mO\zJ<]9=CTeMB!e]iP3[x-~Xx]vr3~P>YcK*V<MoC:\57^.iN|Y9q]\/<8c><Y+ty^:N~SUb4OU/<}Xvam-9M^Oy<>KR4}M^OzowGh?~{^`5lkGAEmX^uvFn5zb{G_+lf>9i`Zf_->Q1s5nG{_4q<SxW-Wk_C54|qeL+]_NF>P\G.EV`K8nDd4o6?`t\W:LOgIs`}o`HLvFBpa/->+8hxp,a?=vVPI0Boa!kqq2/cAU/Wu;]dH<Tdaq:5mQh0YLauj<0!X^M~bEx\k2{As2/e8-F.i63cb~]YH3W8`S»
universe «c,Gfl9>n{Zc?4?3l~sW+cGr5{`N<7,cLZ,mGdp-Sc^S07Dv.x{cdT}wI.>,Scv!m=XoBLTcvxUB8rz2eczxx~2n=+0*[C4*_c8dLd*MM>A|Qcsd8DjCb~g6Id?|i74xw56dGy\h99ssmdHC]2LErYQdQOd52fTpadS!xmN<b_Od]J1\DT`0z/t^kKpf{<;/viO7H>0zje4nfA{B2paeBGG]z5}ni/z/b_UT3MIeUu54V6A.EedGnU*J1;*eptT!AE|s!f+UIhKJ^;Pf>Od3/:`oJ0,0d=gdwlMf];nXgIzHof]GgQE4QB9g<>q|zfx9hg?wn^U-.u[gG*1+]-W-3gm8Ln1MZs*gtI_`FOu9sgwMyT.b8.Zg|JA:fdt]rh9FL;61UAShKYpevgruCh\I~WehA4Xhh2+OPoX-Di/v[5E|E?\iI^HBepC**iRSA.C*6WUjZSIY?l:.|j],~fWQEOjje.^~kLnC>jpIY[8v^lojpx!~O6+f*j{AfWJnUUQ0U>K<V!pi7kAk^!}EGSp0ZU88=/4BkkiZ5moaPN;k{lAWjVfQ20_udjxeQf8lGNE{-4fm0lStO\vHko/l_P97\7\9mlewwD3,RQnlhIS*Hm{{wli8+[|s/C.0et^-IILiCm/BCE{Q]=9mBNU;M~;\{mH/]*8jo*-mJccMr.VBGmN.r^rc9pjm^7p>^3kuumf`g.Sq]\10lHC[Ys`24n*o|cJ=DcUnCXh<sqo8:n]~76zk*Ujnv+Xav:_4fnvkk:XoXRHn|m`?~VKN8o!,Cx,QkpsoY}4L*`y]+p/GS:CQ}4Np9Z1C`X6xVpH;e9cm4yVpZG7Sj~K]=p]~|2_q[dFpbblfTmKd!plq|Ce!o8LptAW9U?T;Pq1~2t7h;URq=b^yWrfT_qC7a6NG,CrqRU>k>57l*q^Ide!6`RVqd*1=5M:]mr,C6<u^-~H1;d4g6~>Mqr5]3z1]2FYr;\KTEZjW<rFcImC1qCmrM-7<p/PDJ»
universe «rQBUx5ozJVr[T/2v;nuL*gfK:!5IR*r^^D.6xQr_rd5,cF2pOGrfGU2wfI1h*gq2NE.-;=1BAXgxNVJLr|rBtky344s1^:166EVms3xXfq/rW,1E7wS{;hG+sALs3S8!]b1G:70`nF].sT>9Z`N:*k1Hn8^DtiE0skF5vm;P_Dt:Ncxfx6BQtCG0wduI5jtF^TbljSjRtMiLS_zP=atQYl3G[rCptQ`_FkH.1Ptfp?BN*-O*tom>7^vW}6u*rHMjDB[`u+I7YO0l_iu-7U!rX<E~u07YS|Y8~V1VLs1+M`p>uByL;jAOR2u\!7YWq[QUu_?QvrO/aiun~A}5SD3Iuv\Ml^N`-cv*YI6P:y3[v.ysK-?>}Qv1,=:e8Rzkv1ZX.=.|[U1dC7?~DhUj1dkEnVhwZ]w+{*|p388tw4K^Bcb{y!w51KADBQDGw8sNOAvLmewPulj9`Ba[wUrf;c4!`Rx>-7+s.57sxE!Dd,NG<4xEO]?C-`7O1si}A]{9G|xc|i|*m=cjx{We7\oo28y0oInkX4hsyH9Z2s>3Z!yJ.Pz}Fj?_27Yr*-Xa>Z2A6qyuPA<O2P}>8}QIC|*t.F?DhQ,L2v6lxF;3`b3,XEelM-Aa31;fJsi3FK38ux._AoXi3B2pO?l{F/3RPlkWGUhp3^opjXF.k{3qgn>wsD>43se;Ab]x7|3{1X8xpNd~4*X\:-WIxf4FS5m36*=c4HK`a*0CJ]4g}Fm;~Mds4jJe,=>3il4l]~M=fuHz4otvNWlc9\4vm~E-9=s?4|XlB~mqS;5,Pgtly3c^54le2WW,wt5B-PQJm`,95_UT<PamaP5bFIoYo3aF6=1MX^s9iz6>svi.pqO7*4Q*!CE-:+6jUKiKZU|b6ti4aa0kWs6zxcYm|HfM6~_42E+Pt5+EdSm{A=DT7II<B/cv5f7WikGE\Jc>7XB:n98.?K7\7!U*QKmS7k2AcqfjOF7x]i529Igk7y*[nCbi_N89JT2p=^vX»
universe «8<,umg-{n:8?M|7^**pb8FRgm\n<vp+O-ah8iCm^8IK6Hx+:lI*6mh3wxXu^9/P`\KjHvI9C~Ke`Xa8L*+D9B07R0H9LsQ;600Kb9P5^cew71U9Qav_-D;F19UoZa-|XY-9^AwlHv.0R9j-9X2DwAf9ue7bFbSB89}~1b0f76Y:1+dJ;2ONI::9jb0k,:,:AON^.a{ZC+`g132DZba:_BwM6b66x:qE-xsrb!8:u^TSM*^C+:vW\^\fVi[;,GV5Y<yF-;8*FPlcjM*;P`|.5!4IG;Ww<,PuFv9;^`~IFQ0__;^ip;<zc9z;gujn\02[L;i|rWS`.De;vyCP}qQj1+ng.[EDgdJ+owot^R>XR<>UPz2*+/5*9fj>iQ4<z<`5*Xa9l_q+t{v*y9>X*+x1q3|uDaN=A[b,OwCz+=EHrGy+\dZ=e|kvRU15i=qN!~=k37j=w*D-~Sn7q>6n^>S=qMc>:;<3AImY\>x[uGRq5uk?.S<?oCL+-?07!+U{/W:?3|ET1UC`V?48RsSdQh.?>|+/e92h]?GWCR3^Jsg?GbD+{==wv?NSlU|xZXt,6uFnSfY_F?^ig_pOVNP?bFIPx_UQ3?z:ed97xXf?{kX5<*qtm!F+SFg;s1G,>>xJBJ;ed!fTV67tUCf!oz!of2==6A3}P9CoH-NA:V}h_iq^SAFSV9Re29_Am2Ko<hNZZAqAs9b;?XDAtNw5Q1~K=At\}gZj9*]Ay?s=7z7GR,KPrCI+B~x,K|Lg>R._vB+Yl0!./kkB.R9Ejmmi4BEGE^2M[]5BZ7{M9K_AFBp{kePyDiqB{{Luc<+L+C*7q[_}r[JC,1H8gm3<4C,`9q2H`SfCA[6OO,J7kCNKnrh2g5N,Xxa89vktEC\RcGE+~9O,YmgjmNnomD*/XtePCy`D9AW>ZZf|bD:s~a<qWhdDQ,06P!pDa,e|wY]WVoWE2W1>>9o|lE?y\nKIi^WEa/o=nlDC>EcSa3-ScqYEdan\WYpXl»
universe «Efy5]i6a,HEnDwUK6Ew;Es!wVzG?BLEz\Ox6c=ml,m\kb=htXJ,n,bY=yv_[F<Sw3OufQ3F<^Rs_Yg-:FNSNQU}>0KFX<;+Lv5*HFYVHYlD,YSF\Ig?sESKsFuC\Aw;vcBFuhNF\l{OXFzgp:g_W,1F|~^BKD.m6F~H-UdVp4TG>AcH?ug}*GD3DRX3koSGX;=/RAhXXGdMHCKcDRSGi/xQ]Lrq5Gm>j:E!Z42GoRK.`T/HZGy!]QS>vh]H+|Qy3;[3VHEizGyy{60HK7g,AM\U8-2PXM_K<5\I048D5At1kI1P4I+8F-VI3.]/O\^2eI<IlR{MLE{IH_b41?+!DI[xMRJ99XrI_ZYfDtY1\IjMT;vua]TIoJD>.;qzTJ+J4Xa3`tWJ,XPjvJJ/ZJ3lmN;:];ZJk}+;GaQAC-CW?s{fmh6K+-Z5l2w[|K//>GYj~0:K2a?suCznRK7g1,Pnf7^K;JC>w[A[:-FN^d[pQuN-Fe`HBlZd1KU/`F=0K5[KVNcHGPfSbK`L1IDXiyRKpDzm[Xc9\LNF|7_C3~KLYRSvT`{LGLZ[kC6Ui3HL^T{e7Z?NiLq?!;Q<\vLLr]L?\=h\[M-5_mf=MSHM.?xp+sp?.MNiCV!KvB4MO9aa<KV4~MQ0c{++|/3MQ7T__BUP]*H8=Xp2vw=M\mt39FUeUM]cYtUOh4ZMajcT4}i.mMc!yI_JiuzMceslKOQ6mN,Ecr9D2gxN0[H;rblV!-]f;cN3JJ9N3?KgQ7aO+N5NKucgcT>NLKoQ3T1^nNSu^*:U`o?NTt_L5d_YBNf|>r0Rzd_NsS-J+Cs[n-jYY4.E*N0OcK[DWj8EqOi3{}gvsd*OrXfssYz`,Oy9LrB`<c!O~X{zY;oPgP1hRr-/d}PP9MHa-7CFBPhLsPl^:5KPk8w>-fKDmQF+!=>W9NGQLh=z1y7GWQQMeJL?ogEQgm5CME:MNQlEeS}`r/LQvZ3T,\u;0-~Jpbtpph,Q{p>Cfc5go»
universe «R0Hsuvp1QhR0L8o/p4sIR0Wqo7E/lT.+DOhG-aF]RL=9w2-A3jRQpO2nD{RRRVTUPAqI\-Rb_?_?OTO<RdcWND0T}jS+OcCg|v]S.3+cULMP{7S25~BeKX-[SV;Nj^?+yhSYsGe?^09IS_,:xi}TD=S_=Dp^yDSc.86HJF`7r/ScRVH}\?Z8Si/k9/j]?rSu<G,l~PdUSx5bp|FggET.53l^|b:bT70.Kf`1{aT7n,7]lhR;T872UlcUaFT;IJ[>kL^tT!3_?9IUgaTN.wxNuMY\TR|0X!gfXhTTjM<c}yNfTUN0IX<X\ST[djdscbV{TfkXwq]/{+*NDe2sk`u-TmQL>l,Cm8Torily9N\FTqJRArl]FeT~aPq*o:QRU.}u!CKn![jx|a=ccbMmF2yx+fMpU]d?q1:E-t;^Cj{WLojHx:0!\hxTtClYTb!:0Z*2A7^:O*44Oa[hg.>L;.g4|8tWUCH-p<P:w_/0bEirpB2_LzOeYXIo2gf+c:2b1G:Aa1s3u7KdLiBNp7AmVb[ORGw0yNUqftWE_|3_.=Q?YKm-z?\9;=HJ:IEBi2<aPC8U8^SpHL6RK[gMzmZ;kj[:B><}/A1ht`z?+=eQyyanHUURf6rJJG1i1G8g/FZr+`6+=a^M/8i^2,!z_5wlR8P8AgC5bb>9jQSw[dyw>*!iX<U[9U.v23\vg5^s\b3^SkwnoJw4BvL0~1<QqgCISMbDGy+sE;3Bl0dF^U+YQ3AT,gn-aigmJDucxtfPHBbo|ZbWpqV=XHamoFy<w^mPl`EU+q>+yR[`V=R`SioCe7Z:Zq<.4^Jl3sfl[SCgk?:mad_JOx8p*Bh7cv-[_CcA-v.L9LHm/TfO[2QVLIq;Jq_VcE>fp^<Fv^e~Bqp}t42xVR}D-Noibbt|eTCfm,2B,N1]+}>ZJk1!d><?e5o>fJ!B{tKf/wo7P9Uyh}lXR1-q|aqlw~=FnXS*.nHTlQ*RN}:Yr*S6zU6nm*.g/g`t``L9»
universe «f\^h!=*b]d63r!^vmOiS4d}11HVc|IUybO|v:ukXdI!WyZn/^}qL9|r;2G0?HU[A4/+N9P`A/sHb}[HK0+fl:<XOMUhb?KnIW2dTmQb>5=GN^+X>-W-4op-B1073l8ml::8gsUd?nA2ZK\gFybtR7R]0o+8;n32xiEK~,_2-T0lAQv9s|{3.0usG|{giRpxuK13YJdrN+:gJRs3X2UG!95NO45rsM4yv=gVOc!ZSg\!--`,VVk.pkyQ_ww1ujK^{w-`2xMUOXHI^!A+vkTq:h6:wMQn+YB<2w3mfrjJJSbK*]G^[qCjfDv<;eI8Rr,2[Yg<b\87U_>U/bUnHKMszh|Y5r4U667FpEp8e*rk<5`~,j!,Be`8ti\}4>*jQ,vHah-O<J<A,:vcI!<mgxY].5D}qeXj=RMSogQ0uq}45bV;mqHyI.*Rh?tv>+!8P{gIaxZYbkx<m|IhG^AxW[N9xm}d+yRz\+`Tu[.l;P<ptzwnEJpni>7LFny/]{jfB7-=w`TJQZ}tfOELaQt9odNDb_SZ_^]Sx!>M15MZdf3au>OTFTqrZk<\fl={_6Q9;+jBcI5~_DdCQHPcVM^JPQP<d}-v,T_\Kq7`=~5B3aY+Sw7=ndbPZJt[pCV0h?0**0<sj3A?a-;S|IdD8w*jvH6s..bp`Tl!T0OyJ50y7QDva*v.Vp4O2ElCJMm_3p`LaPaYyE[DgVDVFE:2W+N\dh,3D|8\/62o1,!6hEpMUpxOkN6~F,vqrTTd9vl{muIe[_c/6pzvUTEHDG-nO4s1w|OC!1bGO?u|;z!K*Jo0iiy7X/}K-2JWKXyM|WS/n5ZgpFdg=LAskV=x[0~=g|~71wC1!K3Fv`!Xtvv!1U~Oh2oyOpJ]H~X>R52hbtsyfB3Hi~]=i0v85Qx<05uV:TjR^=h7Uzs]fVT]mb]rc*h]3*K|XQI^Ic02ZkkdW+`;Z`~LGcnQY>>qlAzziyN21*1YZwvqc6V{6?G{Q|Q8SYgI_gPQ0»
universe «*DvR.0GANEUQec71|\;4eY|o]0SwtDtix?:pzqDGveI6bceARQ9mE|fB]gsc,Y{|:7e:NLPiTXQ]cidfp/O]HBlUsvwtN:w/dgBPMuZr!AJ8?3e,nwf^WmS8^qjFv]YU3!0+pD1.EbYPk~.RLK|7u+l+Oxd}{,EnqJ9r7V2Kx9,YfLq<Ke=neHc<M[9-:miOz3^bV_URsUB=RXBIDJ8r<i|kE-y?M^-uGdV=\Vr{V~QZ|{lL:91V.G]s7*X64?Z]b0_hFl?o8-F,bnJoP4*Ji/zYTBfW|d0s!1Vw^dvJ;U56W9SP+RTO|yXNP\Csm!]O.jLL:u>:np\=Ypp0dqbN\Mux-W9Eh.\[{!0}tdK4br10`NW,7Mbv-,wpLEl~cig5/R]tW\e>mm9[q*6LfX\N{xxAyQfyrbEN4G.*gW2scpmi7=hc|}:wb0yMhq}G9PG9->l3N6w~kBiCo>G-1ZNm,^si_eEK;;Q11OTJs51,d.t{q~U1,fixu3d0|yb}.cv{FurQN]DM3oZ:322w|Q4*c-/YeiUb4>X/IDOCER4a\SZ>pDHn+Sne/+RfIJ:ThdOcm14C;4>uJc=+/Z+m]VElz1a6,C~kZ_AbQeCIQUW3A|>pCr^UvYgOLbME/x4k\8EvQ}|^nDzfKa^8L6m.-PAnn6`n~?!XG0Wb5jsmAnsYZ5P5nDyZSr?A4Z*~gHdIv!gT4^xkUrUhL>`Q2\G2cGNT8ycT>2mykNr~leg/oqvCcimN}}wpA/vr,L;R3AsI{|EHL53YjM+hg=-P3iA9gurCFX7=JUE2.O}O<P^su`fWOa?s={Ye=\*,E-u^XPG.kg*A*dKD\Hl}EF13|Ra{wuH^9[YCy_|HQKKh|~]:AIR?`JIdmWPX..b:QPC/xbTkG\Va^zak*Nhje!eTJoYz_pbe}p`v/\kguiz[8:dRKVL^hi]!j5xmQbNc]4pM5?nLqiFb332aBcQcMG5v=T\?Yf+17ZCx3lMnwq8/qWWoIR!x»
universe «,,=kqBdR1DF2r,[37aS5LTY2dhECk4M}W^>IWGwiPcTdAiP9s[TRkr5[>uikTtvFx~jGEkV1N<;3t,^<1MYa]hI1[Q_-tu*tEocgf/hH2A/XKsfE7-^aJULn0]45vTNnA0y!^jm+x^2{2kvnv\nmf/>MGBtK~OkPHo2NKq\W]gMCfu>Z0S4SSing\vb:nHgY7>bKN;.=h<s[>PBK-Ou7V[S+O`FFy>Oxjtf9SB2;oF-zR>.=3=^z|B!~>I4,u:G+i*Ob4|?I4J<*AS+JKI?.>8SK8Wp{Bu5WTKAICcWPATvAH=Q_sBrr38IF[MG4ZrLwJNndh9J=H+L;`\9]0LW>Pg!`B>Ih}yS8RGLNNQB|U;orT8|jK?UT<Wwa:`|GUpKu[F1yH7Uvs!?:Z7!WVKfjMJi~X]VtN3=H6H_nV~f[X3t9q|W1C6,19{HL.V!Ug98k8cWIw~oo,`2kW^~ZLH2j6S.ZEqzO;LCOWep<,zPY*FWev0Vs,^::Wg605U]]1?X<g.6kY1`YXAjfl=FB<zY2FX<U.?H9YDAtgDQ}}.YRUN1w+lRz.koyL0q?+:Z2Eb,`fh8aZ45avZ<_zjZI;K-EyvaVZYwj:H3p1[[Ufachu={m[[:QV2ZZSh\;5w?Y2Rlz\IXRz{JuSD\[M5rtyp2,\\fT0Wg=8k],fzi<yChp]3^bYd>Vw!]=[I}N>_aS]tU|v?k_Y8_,;/wWCDE/_2K`XBJw/-_LbS|L|G*>`-GduZ\4HC`:_U.4uJWF`q>E{/eky]/SqXe<,a*Na1swNFOx~ma<.fMnO|]=aB6GAiAey7a]g7]3vPzhas~Fg,3UqGb7KhCm^*E?b=7sXs`|_h/_499TvOorbMBP:g>cEMbVfw2v|x:y/cDEn[5cLBd/QQ|r;>hJdAu:=l\5TPdI!l?11`yLdUx:T;TEuHdZKXzo6z`_dffJHz~aQ[dgNuYy2BNJe5a^BHWPMZeGjoeid_nreU6bj6]]^6ees8\yVbJJ»
universe «fEDLd4~4~efV.WaC?v>hfZ*-/<79._fivi5]gF>Mg*Nxu!98_sg7lCYSYcaMh.|MsF`\jCh9nduSVOxmhK8u16KuIWh`-Dm=GGhHhnj6\,C{=AiD=Ts,~mq_iGy8WCe<?6i]?4g+b9tw0OF9t?b008jvWcFx5CQyj}U>x!jNO/kMJ1t?^w[BkTI5gc/7t/lOCBTno|BRlTsWl4C*+RlZew?r=!Lvl_O!WJ=R}bm,O_C;JJQpm68lvF`:bvmR>Y`tv>5H0j+wWlvI`Rmi/8!~Pnksn9~`+E~*Gfn;TR0f,>1]nN_mc8|qxFnSpc`fa`GfnV+LJyi0TfnzeLbObgeVoQ8Nb<B?xVoX+p=IpHh]otj>;7?SZ*p;6AdTEHH1pU=vhn8u1>paM_QOHmzKpktnPADTRjp{L5-A[!;jp~D<LR}5OCqLKlom[SNdrCwisz<t/2rW|q=hodSdriYH\s6<cIrk.hZ0CF=nrn<Zv05?Q6ro~-fP[0,Ur|KIOQ~.ULsKPkf`wEwBsKxt*]|ci7sSzt./-LlQ1J*tjh}?[jssM,z[Q,+WtVuFFcu\_bteKyjk,O,?tkhIF>t13ytva}x[Qv`*t{9SD60lTfu.9QSKA[<;uQNY}qOq5.uR,]`z:Y`AvCCArJ4<[EvCl+N]a0PyvQ6<zCtPUUv|r42L7rnYw3Z0LUk0=:1f]6j~G`yPwU`ifsf:x]w\qVU4{[W_wo}J05=_R5ws*xB-tRy{w|iCTw=|ruxS-uPDKP[>*ljo^S-pQHxYY[i[B?6,y*t7*MZ~qq*mGtMz[k+IyABl\444QIyNpQvIH42L1zCZ8-,60|yY?z~6>zWK27]GVmjKZM2_+ON5m!4V2al]`3A!-z2m`+J]F:5+3.\kyS=1*s3Z:^ouq^|m4/[Gze{Ry440<bHPVW9.44BcpXOyN84G,{-/6F6W+/U?w,fohb5-_r:!,\tn+4V{-;91`~5]8S*\/G>l+8hJNj}T*u+9I>F`/<m+»
universe «5uC^z8]<[s5w=A<pp0HW61Gibua[ja6;jiF/BW}O6OV-i8ld0s+D_{GFjqC~7WY]6L,qKm7cNuxBxy/U7ggCS4-uL_7pp2b8+-e/7~vviorsLr8=N+!l:GB*8?mT]QSnAJ8IaK]:ND_69+T2X4o7Hm+Vu]*N7I~Y9DvqO9bC=A9HLvOdmtVz9oOxMP6IsX9}_[XoH*dB*7d|sF\w\h:9tp~3bp8a:=04gKbVs\:`0+=/gj`|;8=,k1Ota*;:_7UE]C3l;A:x+C]V>H;[}8yzCX>i+r8SS+1N*i=*w;1rV:AP=11H=X]GMj+wZ;MNTkih=\TBqB,4uQ=iV8]UKs5-={f.9`]GIz>5,R`~rCl3,+sSKj|w=M,,r{uqJj^a>W|Nt2\G/^>mVlHL8fVy?GZ+FVeqY6?sIk.,TWE1?y2JN!2;XK!=+;;TZV~8!>19Jz4~kh!K3Vis`aIK,>o7:;s.jN!Z~],E8,AC!aqCurx.}f,Cl;{N7fyDA>P~P+A6O^,FT8F[cwD<AW.wL{Ij-l,HBt|Ue-a9AafJav}nRPAg-*0^{d1GAxRTZ*~YCUB/!9*`qGDRB4P0]*lv>]B7HBlF;u?y,Mhyq[Ex!RBOZe!96=V}B\O~_IOj<7Bmsh>cS:t=C+3VSSCiB~C?l{3S!p:*Cc=>.L*t7eCczrH+bT]wCn]E<kcvhpD+g9z~~Io-D+rc9+|7E2EFx3I-:iqfEN1]/XBlMc3!s|9.t<CM:]oNqFqcf:»
end PySem.W.Fast
set_option maxRecDepth 100000 in
set_option maxHeartbeats 0 in
open PySem PySem.W PyProof.Rows in
open_top _h for PySem.Challenge.rw_copymeet_k81_deeds_done
set_option compiler.extract_closed false
theorem wE(_:True:=by rfl)(_:True:=by decide)(_:True:=by intro _;rfl)(_:True:=by decide +kernel)(_:True:=by first|exact .inl rfl|exact .inr rfl|assumption)(_:True:=by first|exact Or.inl rfl|exact Or.inr (Or.inl rfl)|exact Or.inr (Or.inr rfl))(_:True:=by first|exact J0 _|rfl)(_:True:=by first|exact Or.inl rfl|exact Or.inr rfl)(_:True:=by first|exact .inl rfl|exact .inr rfl)(_:True:=by show PassesOwn.never):True:=⟨⟩
def zn:=wE._auto_1
def xL:=wE._auto_3
def kt:=wE._auto_5
def v0:=wE._auto_7
def v4:=wE._auto_9
def v6:=wE._auto_11
def ww:=wE._auto_13
def wf:=wE._auto_15
def wl:=wE._auto_17
def wp:=wE._auto_19
open PySem renaming wpAny_bind->eg,wpAny_pure->vh,sizeLine->wa,starEach->wj,wpAny_newObj_type->wt,Spec->xr,wpAny_callSpecial?_slot->yb,wpAny_call_entry->yc,wpAny_holding->yq,sizeLine_eq->yt,mainGlobals->y8,compareOp->za,wpAny_mono->zh,cellsFrom->zk,wpAny_Call_Name_kw->zu,sysModules->zx,FuncData->zy,foldedSetIterable->Vk,wpAny_ite_false->Vq,binaryOp->Vr,wpAny_isInstance->Vs,wpAny_dictEntries->Vz,wpAny_setField->VE,wpAny_attempt->VI,wpAny_fieldsOf->VP,codeAny_builtin->VT,wpAny_dictEpoch->VU,wpAny_typeNameOfWhole_itemiter->VV,wpAny_field->VZ,wpAny_typeNameOfWhole_valiter->Wa,wpAny_of_eq->Wb,wpAny_typeNameOfWhole_keyiter->Wd,attributeBase->Wh,bootBuiltins->Wj,assignEach->Wq,wpAny_typeOf->Wt,wpAny_notOrdered_dict->Wx,wpAny_passesOwn->WG,wpAny_pyIter_slot->WN,wpAny_typeNameOf_valiter->WO,wpAny_setState_of->WQ,mem_of_lookup->WT,plainId_quiet->WU,SetTable->WV,wpAny_setEntries_of->WW,wpAny_rule->W5,tupleKind_room_in1->W9,DictEntry->Xc,wpAny_specialOf->Xf,wpAny_truthy_bool->Xm,swapsWith->Xs,wpAny_askSetting->Xv,codeAny_mono->XA
open List renaming getElem?_eq_some_iff->vg,length_map->vn,mem_cons_self->vo,mem_cons_of_mem->vr,prefix_rfl->vt,mem_singleton->vx,mem_append_right->v5,mem_map->v7,mem_cons->v8,size_toArray->v9,all_eq_true->we,getElem?_map->wm,length_set->wo,map_cons->wq,prefix_append->wz,map_map->w9,range->xf,mem_append->xj,mem_of_getElem?->xw,getElem?_append_left->ya,length_append->ye,getElem?_set_self->yi,getElem?_set_ne->ym,lookup_cons->yn,map_append->yo,pairwise_map->yy,length_cons->yz,map_congr_left->y4,mem_append_left->y6,getElem?_eq_getElem->zf,cons_lt_cons_iff->zg,getElem?_append_right->zi,length_take->zm,pairwise_iff_getElem->zp,nodup_append->zq,append_nil->Vh,replicate->Vj,pairwise_cons->Vn,nodup_cons->Vp,append_assoc->Vw,ext_getElem?->Vy,getElem_mem->VL,mem_filter->VR,getElem?_eq_none->VW,eq_nil_of_length_eq_zero->Wc,mem_range->Wi,map_eq_nil_iff->Wo,not_mem_nil->Ws,toArray->Wv,length_filter_le->Wy,length_range->WM,filterMap_cons->WS,all_cons->WY,filter_cons_of_pos->W1,filter_cons_of_neg->W2,nodup_nil->W6,lookup->Xb,take_add_one->Xp,ext_getElem->Xw,take_length->Xx,length_reverse->Xy,not_lt->XJ
open PySem.Heap renaming get?_push_of_some->vi,get?_push_size->vq,lt_size->vy,get?_update_self->yx,get?_update_other->zt,SameBut->VJ,size_push->Wz,get?_push_ne->WJ
open PySem.W renaming Frag->vj,findIn->yh,kia_one->zc,mg_of->zj,keepIn->Vi,kitOne->Vo,fnOf->Vu,nsIn->VS,instObj->Wm,emptyDict->WH,subIn->W0,callWith_K->W8,InstAt->Xt,plainGet->Xu,codeIn->XN
open Nat renaming le_refl->vk,le_trans->vz,lt_of_lt_of_le->wb,ne_of_lt->wc,zero_le->w6,le_of_lt_succ->yl,le_of_lt->yw,lt_of_le_of_lt->y3,sub_one_lt_of_lt->zr,ne_of_gt->Io,le_of_succ_le->Vx,zero_add->VC,lt_or_eq_of_le->VG,le_antisymm->VH,lt_irrefl->VO,lt_succ_self->VY,le_sub_one_of_lt->We,lt_succ_of_lt->Wl,succ_le_succ->Wr,le_of_eq->WR,le_add_right->W4,lt_of_le_of_ne->Xa,lt_trans->Xd,le_succ->XH
open PySem.Str renaming ofString->v3,length->Xn
open Bool renaming false_ne_true->wg,and_eq_true->wy,beq_eq_decide_eq->VX,and_eq_true_iff->Xr,eq_iff_iff->XF
open Option.some renaming inj->wu
open Option renaming map_eq_some_iff->w8,isSome_iff_exists->zd,isSome_map->Vv
open Array renaming getElem?_eq_getElem->xh,getElem?_eq_none->yj,getElem?_toList->VB,getElem?_eq_some_iff->VM
open Ne renaming symm->xy
open PySem.Heap.SameBut renaming update->yd
open PySem.Value renaming none->yf,ref->yg,int->VN
open PySem.Obj renaming mapSeq->yk,data_mapFields->zw,isFreed_of_fields->VA,mapFields->VQ
open PySem.Paired renaming length->yr
open False renaming elim->zb
open PyProof.Rows renaming slot_tuple_getitem->ze,callWith_type1->Wn,listUpdate_at->Ww,mirror_perm->Xh,get?_update_seq->Xi
open PySem.F renaming slot_dict_itemiterator_next->zo,slot_dict_valueiterator_next->Vm,slot_dict_keyiterator_next->VD,slot_dict_get->Wu,plainAttrs_dict->WZ,plainAttrs_list->W3,called_set->XB
open PySem.NameKind renaming free->zv,cell->XE
open PySem.Txt renaming slice->Vl
open True renaming intro->Vt
open PySem.SetTable renaming fresh->VF,below->WC,grown->XO
open Sum renaming inr->Wg
open PySem.Calls renaming callWith_builtin->Wp
open PySem.Builtin.Slice renaming slicePlaces->WA
open List.Perm renaming refl->WB,eq_of_pairwise->XD
open PySem.Builtin.Tuple renaming tupleHashOf->WE,tupleExact->WI,tupleItemsOf->Xq
open Classical renaming propDecidable->WX
open PySem.Builtin.List renaming listTouch->W7,listExtendWith->Xl,listSameRef->XC
open PySem.Builtin.Str renaming strSliceIndices->Xe
open Array.Perm renaming refl->Xg
open PySem.Builtin.Dict renaming showsAll->Xj
open List.Pairwise renaming nil->Xo
open Int renaming toNat_of_nonneg->Xz
open PySem PySem.Spec PyProof.Rows
open Option renaming some->a8,none->a9
open PySem renaming Value->gV,Shared->g_,Addr->h_,Around->i_,Heap->jo,World->j2,Program->j3,Expr->j_,Stmt->ko

local macro_rules|`(tactic|omega)=>`(tactic|lia)
local macro_rules|`(a_ $x)=>`(some (.ref $x))
local macro_rules|`(b0 $x)=>`(some (.int $x))
local macro_rules|`(c3 $x)=>`(PySem.model ($x).prog ($x).w)
local macro_rules|`(b7 $x)=>`(($x).heap.objs.size)
local macro_rules|`(b9 0)=>`(PySem.Value->PySem.Shared->Prop)
local macro_rules|`(b_ 0)=>`(List (PySem.Addr×PySem.Obj))
local macro_rules|`(c9 $x)=>`($x->PySem.Shared->Prop)
local macro_rules|`(d6 $p $w $x*)=>`(PySem.wpAny (PySem.model $p $w) $x*)
local macro_rules|`(d0 $x)=>`(by simpa using $x)
local macro_rules|`(⋯)=>`(by omega)
local macro_rules|`(d8 0)=>`(Array (Option PySem.Value))
local macro_rules|`(d9 0)=>`(PySem.Str->Option PySem.Value)
open Lean Parser Tactic in
def d_:Nat->Syntax->MacroM (TSyntax `rcasesPat)
|n+1,s=>match s with
 |`($x:ident)=>`(rcasesPat|$x:ident)
 |`(($x,$xs,*))=>do
  let ys<-(#[x]++xs.getElems).mapM λx=>do`(rcasesPatLo|$(<-d_ n x):rcasesPat)
  `(rcasesPat|⟨$ys,*⟩)
 |`(⟨$xs,*⟩)=>do
  let ys<-xs.getElems.mapM λx=>do`(rcasesPatLo|$(<-d_ n x):rcasesPat)
  `(rcasesPat|⟨$ys,*⟩)
 |_=>`(rcasesPat|_)
|_,_=>Macro.throwUnsupported
open Lean Parser Tactic in
local macro_rules|`(tactic|let $p:term:=$e)=>do let q<-`(rcasesPatMed|$(<-d_ 9 p):rcasesPat);`(tactic|obtain $q:rcasesPatMed:=$e)
set_option bootstrap.genMatcherCode false
def P_0 (f:Lean.Syntax) (y:String):Lean.Term:=if y=="_" then Lean.mkHole f else if y.front.isDigit then ⟨Lean.Syntax.mkNumLit y⟩ else Lean.mkIdent y.toName
local macro_rules|`($f:ident $x*)=>let k:=f.getId.toString;if k.length != 2 then Lean.Macro.throwUnsupported else match ((("wP autoParam,k_ List,l7 Option,c8 Inv X c6 σ,c_ FS b h l lt lm lf ll a,f_ tM P w K mg base cl,ia RV C φ H,l_ d6 prog w A,m_ Ext.app _,n7 wpAny _ _,n_ SE C k X,o_ aB vAt,p0 tC P w K mg base cl,p5 RVs C φ H,p7 RH C φ H,p_ SE _ _ _ _,q7 k _ _,q_ cX X.prog X.w C.K X.mg X.base CX0 j,r_ DS B h A own As fv !,s_ evT lt,tx s.heap.get? b !,t_ Ext h,u_ c8 H,v_ post C φ H,x_ upd H,y_ dsF own 0,z_ cX X.prog X.w X.K X.mg X.base,Am LS B h A own As fv ld lk lh ls hs cs,A0 I1b _,A1 Cxt C k,A2 X.env.cells.lookup x !,A5 eval e X.env !,A6 X.env.scope.names.lookup x !,A_ s.heap.update a,B_ X.compE sc N,C_ s.heap.get? a !,E_ k_ PV !,FR X.comp sc,F_ RE C φ H δ σ !,H_ backTo pos,I_ mtM Z,J_ tI P w K mg base cl,K_ Array gV !,L_ model prog,M_ OpS C k X,N_ RH C φ' H',O_ OpR X,P1 sc.names.lookup x !,P2 RelV x,P_ h.set n,R_ SSt _ _ _ _,S1 OpS _ _ _ _,S2 k_ Str !,V_ PE X,W_ sIx items.size,XQ DS B h' A own,XS mL CX P w K mg base N qual scope f,XT Kp H,XU RKv C φ H,XW cX P w K mg base,XX HR s.heap,XZ SSt C k X,X1 dF own 0,X2 wj es X.env !,X3 EP X c6 σ,X4 vi _,X5 FS b h' l lt lm lf ll,X6 n7 _ _ _,X7 Rs Bool !,X8 HOk P w H,X9 wpAny M A,X_ RelV y,Ya nmI own,Yb pa' p,Yc mFn 1,Yd l7 Int !,Yh ms δ,Yi RelV v,Yj bS P w H h a,Yk SqT K H,Yl eval o X.env !,Ym aJ h,Yn Vk iter X.env,Yo I_ Z.z_Tree,Yp s.heap.update it,Yq Inv X,Yt t.fits es.size !,Yu SqL K H,Yv Rs PV !,Yw aB bU,Yx p5 xs vs !,Yy Array Nat !,Yz postA C φ H,YA mkD own,YC h.get? a !,YD kas_place p k,YE slotAt w t,YF RKd C φ H,YG RH C,YH aZ own,YI h'.get? b !,YJ absurd z,YK vs.getD i yf !,YL katRev b,YM cB C φ H,YN SA C k X,YO SI C k X tg iter,YQ Ext h1,YR Df B A h,YS I_ Z.z_Folding,YT I.tok _ !,YU vq _,YV k_ Int !,YW ia p,YX k_ gV !,YY x _ _,YZ I_ Z.z_Desk,Y0 mL CX0 P w K mg base N,Y1 upd m S.heap.objs.size,Y2 absurd h,Y3 Binds X.K fd ps,Y4 d6 prog w A.in1,Y5 aB aU,Y6 backTo ae,Y7 vg.mp e !,Y9 bY C φ H,Y_ mkN oN js,Za if_pos c !,Zb s.heap.get? dc !,Zd Heap.ExtBut it s.heap,Ze nW w a ep es !,Zf aS kvs,Zh I.ok.hd c.calm !,Zi envOfC qual scope,Zj AllLt n,Zk m δ,Zl cQ h,Zm h.get? b !,Zn kJ os oN sc,Zo ST C k X,Zp lL C k X,Zr aV h,Zs GE own,Zt x_ a,Zu Gl X,Zv IsTup s.heap,Zw PI X tg iter,Zx h p s z H,Zy kas_asc p,Zz upE E x,ZA dsF own i,ZD IsItemIter s.heap it dc i,ZE gTp 2,ZF ns.map V.int !,ZG post C,ZH pv d.nm !,ZI B.map bare !,ZJ N.take n !,ZK aO xs,ZL fs.lookup f !,ZM tr _ _ _,ZN m_ _ _ _,ZO z_ CX k f fd ps sp !,ZP Loc X.env.scope,ZQ Wh o name X.env,ZR Binds C.K fd ps,ZT Val own,ZU if_neg h !,ZV I.base.there b o e,ZW FR N C f S,ZX I1b o,ZY absurd this,Z0 kas_rev p,Z1 r.at' n a _,Z2 MO.vw 0 lm !,Z3 s.heap.IsSliceOf sl vl,Z4 if_neg e !,Z5 k_ Nat !,Z6 zj X G,Z8 Def C.K X.mg,Z9 E.nx δ,Z_ wK I c.K c.w,αa I.base.keep b o e n B,αb I.base.slot b o e n B,αc yJ P w K mg base,αd FV B h own As fv !,αe bS X.prog X.w,αf s.heap.get? it !,αg DecidableEq κ !,αh post.bind p !,αi absurd H.symm,αj absurd q.symm,αk Vis X.env.scope,αl beq_self_eq_true a !,αm eqIsQuiet_byValue _,αn SSs C k X,αo fJ C φ H,αp bM f.lv,αq Vu name qual params body scope dV kV doc pm an cdv,αr AllBare s'.gens !,αs zc PySem.W.kitx_list I.kIn,αt PySem.F.args_tuple_add_2 _,αu Kw C X c6 σ φ H f b ys Q,αv Yq c6 σ' H' s' !,αw bS _ X.w H _,αx call_meetsIn Wu dd.typeIs PySem.F.entry_dict_get,αy iT env.cells,αz Walks prog w,αA R.mono P,αB jS g tg body,αC Cn C X k m n,αD Sum Int Str !,αE Paired.mapP r !,αF I2c _ _,αG wpAny _,αH entryFor table,αI P.val r,αJ HOk X.prog X.w H',αK SqL X.K H,αL Fun K x qual st f,αM congrArg Prod.fst,αN intKind_is prog w,αO HT.sIx items.size,αP oJ w.g tg tst elt,αQ pure false !,αR if_pos h !,αS Slot T name id !,αT K w.params !,αU if_pos e !,αV s.heap.FunFrames X.base,αW congrArg a8,αX HT.sIx xs.l,αY atKey xs,αZ C.ex φ' H',α0 post.weak p t,α1 I4c _ n _ _,α2 PV.tup xs !,α3 lvL a,α4 bM f.md,α5 absurd H,α6 FV B h' own,α7 cC w K cl !,α8 W_ items.size,α9 behindInMarks op,βa atI xs,βb atI z.cps.toList,βc PySem.W.WalkO q loose XP YP l.row.toRowW d,βd PySem.W.katRev b,βe Wq es X.env !,βf if_pos H !,βg X _ _,βh if_neg c !,βi List.reverse_perm _ !,βj PySem.W.Looks M s.heap,βk h f cdv A outer s H E S.nd !,βl I.base.free b o,βm I.pin p,βn SqT X.K H,βo congrArg Array.toList,βp beq_eq_false_iff_ne.mpr h !,βq I.hok a _,βr BindsTo s fd,βs typeIs_str s,βt IntsAre vs ns !,βu BX s₁.heap,βv STo lt,βw I1c _,βx Nat.sub_le _,βy intKind prog,βz p.trans P !,βA t.trans T !,βB p.val r,βC aB dS,βD Ext.refl _ !,βE atI d.act,βF SI _ _ _ _ _,βG Un fs ex H,βH I.cell x c,βI Calls.Name_function_global I.ok.kind g,βJ Turn P w K,βK EqAt A s,βL HRs h ps,βM HRs s.heap,βN δ.set i,βO hV cE cM,βP dF own i E,βQ hg a b c d,βR FR N y f S,βS congrArg List.length,βT sliceBounds lo hi a9,βU RVs C,βV spM C,βW K _ _,βX KV kvs,βY isTrue e X.env,βZ lI f v,β0 RE C φ' H' δ,β1 jS w.g tg body,β2 mCB bW,β3 aO vs us !,β4 D.nx σ,β5 s.heap.push WH !,β6 if_pos z !,β7 oB js σ !,β8 VS K y8,β9 l7 Bool !,γa InP n,γb RO C φ H a,γc SqL C.K H a,γd Kp.refl _ !,γe eE js δ !,γf lT C H0,γg sv d.seen !,γh fN z d.nm !,γi PlainAttrs T !,γj k_ Keyword !,γk ys.map emb !,γl L.map PV.int !,γm Rd H a,γn E p s z H _ I,γo Builtin.Slice.sliceAdjust lo hi 1,γp OldK s₁.heap s'.heap !,γq Paired.snoc r,γr wC I.hok,γs yN I.hok,γt D6 js wi g tt,γu Xh _ _ _,γv TOk bt,γw VT PyProof.Rows.F.entry_set_update_loop !,γx ns.getD i,γy IsTup h a,γz wpAny_forIn_list _,γA RE C φ H,γB SW C k X,γC MtS C k X,γD MtG C k X,γE I3c z h _ r R,γF z.getD i,γG mCB lM,γH aY E,γI GE.run GE.nil,γJ LS B h' A own,γK I_ Z.z_Choice,γL a8 false !,γM if_neg H !,γN if_neg z !,γO s.heap.IsValIter it dc i es.size,γP r.bind f !,γQ s.heap.IsKeyIter it dc i es.size,γR I.hok b,γS I.mod.glob.keeps I.bk !,γT bH X.prog X.w !,γU PySem.W.plainGet_of g !,γV a pos i s n H _ I,γW putK kvs k,γX congrArg Prod.snd,γY bubble p k,γZ setField _,γ0 c.room.mono J !,γ1 Do X.prog X.w !,γ2 EqAt A.in1 s u v true !,γ3 lH b h',γ4 f.le e H L,γ5 q_ q fd pn,γ6 B_ C f a t,γ7 k_ Key !,γ8 bindL kindOf,γ9 bindC kindOf,δa I_ Z.z_Count,δb I_ Z.z_Marks,δc K.lookup a !,δd I2b z y I.unwish,δe K.In s.heap !,δf EC s.heap x dx C,δg PySem.W.typeIn K,δh yJ X.prog X.w X.K X.mg X.base,δi s.heap.update kS,δj PV.beqs_self xs !,δk a_ h.length !,δl PGs X es,δm Calls.call_len_list P.isList,δn MtR X id,δo KT H kvs,δp p.getD _,δq p.getD n,δr WJ _ _ _,δs r.mono P,δt bK js mi,δu h.set lm,δv tJ P w K mg base cl A_NoHand,δw k b u,δx I.ok.bs b o,δy r i j t T s _ _,δz I.hok p _,δA cF X,δB zc PySem.W.kitx_tuple I.kIn,δC W8 I.ok.mod.kin,δD s.heap.update p,δE backToKw ae,δF PySem.F.args_dict_get_3 _ _,δG env.kindOf n !,δH keyKind' vs.toArray !,δI keyLt' κ,δJ vs.getD i !,δK Wa h.typeIs,δL siO a,δM RV C φ' H',δN RVs.monoQ p,δO Kp.refl H !,δP bY.weak p t,δQ SG C k,δR bY.weak P T,δS R.at' n a _,δT zJ I _ 0 δ,δU I xs.l δ,δV rh.at' n a _ ha,δW cY f xs,δX SDs C k X,δY I6g w l j n a K Z W V U T S,δZ Heap.get?_update_ne _ _ _ _,δ3 mFn 2,δ4 mMt isL,δ5 mMt cE qX,δ6 Vl z a9,δ7 MO.vw 1,δ8 Ext hA,δ9 B.set h.l,εa pv e.nm !,εb aP D.ob,εc h.set A.k,εd ClZ w K mg cl c,εe c8 H',εf I_ Z.z_Text,εg YA As.l,εh Array GenState !,εi zc PySem.W.kitx_dict I.kIn,εj E3e z8 !,εk SetTable.below.go xs j f l,εl decide _ !,εm ys.filterMap f !,εn wpAny_typeNameOf_keyiter _,εo q.take 8 !,εp List.take at'.toNat z.cps.toList !,εq wpAny_pyHash_int h !,εr wpAny_pyHash_str h !,εs vr _,εt c9 Unit !,εu PSs X,εv o p S t z x y v u Q w R Y,εw vals1 r !,εx CX outer H s E,εy PySem.W.callWith_K0 I.kIn,εz SlR X,εA IxR X,εB h _ _,εC I1b v,εD Array.perm_iff_toList_perm.mp P !,εE List.pairwise_singleton _,εF mo δ,εG EqAt X.A.in1 s,εH uB cn n f ms i,εI mFn 3,εJ mFn 4,εK XS cdv A O s H,εL TP X c6 σ,εM s.TypeIs v,εN base.Ns y8,εO wY H a,εP zk n names,εQ N3 A s v u,εR a8 kvs !,εS vg.mp f.fo !,εT Fr b h,εU TR E n t v,εV G.lr e h L,εW mA K A,εX I_ Z.z_Bag,εY βU φ' H',εZ decide_eq_false e !,ε0 h'.get? a !,ε1 σ.set i,ε2 J.stop i,ε3 r x y H,ε4 ta σ,ε5 PA X es,ε6 rJ CX X,ε7 mK N ps,ε8 Array Xc !,ε9 Bl I.hok,ζa uV I.hok,ζb Off X c6,ζc iT X.env.cells sc.names,ζd upd H2 O.heap.objs.size,ζe hU as,ζf NIc lt p,ζg ltX n lt,ζh kas_sort vs.l !,ζi S.heap.get? b !,ζj o.getD j,ζk s.heap.get? x !,ζl PV.beq x,ζm Paired.mapP h !,ζn wz _,ζo h y v x,ζp o.val r,ζq o.lnew R,ζr post.fl p !,ζs Ih C J w,ζt STs C k,ζu ns.map PV.int !,ζv ltP n x,ζw OkN m,ζx EqAt.same _ !,ζy oQ f x y,ζz aB hZ,ζA fnd M,ζB Tb h n c,ζC lH b h c,ζD rowsOf L !,ζE YF kvs ks !,ζF αc A outer s".splitOn ",").map (·.splitOn " ")).find? (·.head! == k)) with|some (_::b::c)=>do let d:=c.getLast? == some "!";return Lean.Syntax.mkApp (P_0 f b) (((if d then c.dropLast else c).map (P_0 f)).toArray++(if d then x.extract 1 x.size else x))|_=>Lean.Macro.throwUnsupported
noncomputable section
set_option genSizeOf false
local macro_rules|`(tactic|let $x:ident:=$e)=>`(tactic|have $x:ident:=$e)
local macro_rules|`(tactic|let $x:ident : $t :=$e)=>`(tactic|have $x:ident : $t :=$e)
local macro_rules|`(seal $x*)=>return Lean.mkNullNode (<-x.mapM fun (n:Lean.Ident)=>do
 let s:=n.getId.toString.toList
 let k:=(s.getD 1 'a').toNat-48
 let f(c)(r):=(Array.range r).map fun i=>Lean.mkIdent (.mkSimple s!"{c}{i}")
 let v:=f "x" k
 let p:=f "PP" ((s.getD 2 'a').toNat-96)
 let z:=v++f "p" p.size
 let P<-p.mapM fun p=>if k==0 then pure p else `($p $v*)
 let mut b:=P.back!
 for q in P.pop.reverse do b<-`($q∧$b)
 for y in v.reverse do b<-`(∃$y:ident,$b)
 let a:=f "α" k
 let mut t<-`(Prop)
 for y in a.reverse do t<-`($y→$t)
 let G:=Lean.mkIdent `G
 let e:=s.head! == 'E'
 let mut g:Lean.Term:=if e then G else b
 for q in P.reverse do g<-`($q→$g)
 for y in v.reverse do g<-`(∀$y:ident,$g)
 if e then `(theorem $n {$a* :Type}{$p* : $t}{$G :Prop}(q: $b)(w: $g): $G :=let ⟨$z,*⟩:=q;w $z*)
 else `(theorem $n {$a* :Type}{$p* : $t}: $g :=fun $z* =>⟨$z,*⟩))
local macro_rules|`(tactic|let ($x,$y,*):=$e)=>do
 let z:=#[x]++y.getElems
 match z.findIdx? (·.raw.isOfKind ``Lean.Parser.Term.paren) with
 |some i=>let w:=z.map fun(y:Lean.Term)=>match y with|`(($a))=>a|_=>y
          `(tactic|refine $(Lean.mkIdent (.mkSimple s!"E{i}{Char.ofNat (z.size-i+96)}")) $e fun $w* =>?_)
 |_=>Lean.Macro.throwUnsupported
local macro_rules|`(tactic|exists $x:ident)=>`(tactic|injection $x <;> subst_vars)
local macro_rules|`(tactic|show ($x,$y,*))=>`(tactic|refine ⟨$x,$y,*⟩)|`(tactic|show $e)=>`(tactic|refine $e)
local macro_rules|`($x:ident)=>match x.getId with|.str (.str p q) "l"=>return Lean.mkIdentFrom x (.str (.str p q) "length")|_=>Lean.Macro.throwUnsupported
local macro_rules|`(tactic|specialize $e)=>`(tactic|with_reducible change $e)
set_option hygiene false
local macro_rules|`(tactic|rfl')=>`(tactic|show now ?_)
local macro_rules|`(def $i:declId $s:optDeclSig $v:declVal)=>do let t:Lean.TSyntax ``Lean.Parser.Command.declSig:=⟨.node .none ``Lean.Parser.Command.declSig #[s.raw[0],s.raw[1][0]]⟩;let c<-`(theorem $i:declId $t $v:declVal);pure (c.raw.rewriteBottomUp (·.setInfo .none))
local macro_rules|`(abbrev $i:declId $s:optDeclSig $v:declVal)=>do let c<-`(noncomputable def $i:declId $s:optDeclSig $v:declVal);pure (c.raw.rewriteBottomUp (·.setInfo .none))
local macro_rules|`(command|open H in $c)=>`(command|set_option tactic.hygienic true in $c)
set_option tactic.hygienic false
namespace _L
variable{G:Prop}
seal E0c E0d E0e E0f E1b E1c E1d E1e E1f E2a E2b E2c E2d E2e E2f E3a E3b E3c E3d E3e E3f E3g E4b E4c E4d E4e E4f E4g E4h E5a E5e E6b E6g E7c E7f E7g E9c I0c I0d I0e I0f I1b I1c I1d I1e I1f I2a I2b I2c I2d I2e I2f I3a I3b I3c I3d I3e I3f I4b I4c I4d I4e I4f I4g I4h I5e I5f I6b I6g I7c I7f I7g I9c
variable{S:Prop}
variable{U:Prop}
end _L
set_option Elab.async false
set_option linter.all false
set_option maxRecDepth 1000000
set_option maxHeartbeats 0
namespace _L
@[reducible]def Key:=αD 0
abbrev xY:Key->gV->Bool
 |.inl k,v=>Value.isInt k v
 |.inr x,v=>Value.isStrOf x v
abbrev OK(w:j2):Key->Int
 |.inl k=>hashInt k
 |.inr x=>hashStr w x
def bR:∀{k:Key}{v:gV},xY k v=true->(∃i t,k=Sum.inl i/\v=VN i t)\/(∃x t,k=Wg x/\v=Value.str x t)
 |.inl i,v,h=>by let(t,e):=Value.isInt_shape h;show .inl<|I2b i t rfl e
 |.inr x,v,h=>by let(t,e):=Value.isStrOf_shape h;show .inr<|I2b x t rfl e
def Hi(i)(t):xY (.inl i) (.int i t)=true:=by simp[xY,Value.isInt]
def Hj(x)(t):xY (.inr x) (.str x t)=true:=by simp[xY,Value.isStrOf]
def OL(a b):decide ((Sum.inl a:Key)=Sum.inl b)=(a == b):=by
 by_cases e:a=b
 ·subst e;simp
 ·rw[decide_eq_false<|λq=>e<|Sum.inl.inj q];show(beq_eq_false_iff_ne.mpr e).symm
def OM(a b):decide ((Wg a:Key)=Wg b)=decide (a=b):=by
 by_cases e:a=b
 ·subst e;simp
 ·rw[decide_eq_false<|λq=>e<|Sum.inr.inj q,εZ 0]
def ON(a)(b):decide ((Sum.inl a:Key)=Wg b)=false:=decide_eq_false<|λq=>nomatch q
def OO(a)(b):decide ((Wg a:Key)=Sum.inl b)=false:=decide_eq_false<|λq=>nomatch q
abbrev bH(prog:j3)(w:j2):PySem.KeyKind prog w Key where
 is:=xY
 hash:=OK w
 inj:=λv a b ha hb=>by
  rcases bR ha with⟨i,t,rfl,rfl⟩|⟨x,t,rfl,rfl⟩
  ·rcases bR hb with⟨j,u,rfl,e⟩|⟨y,u,rfl,e⟩
   ·injection e with e1 _;rw[e1]
   ·show nomatch e
  ·rcases bR hb with⟨j,u,rfl,e⟩|⟨y,u,rfl,e⟩
   ·show nomatch e
   ·injection e with e1 _;rw[e1]
 byValue:=λk v h=>by rcases bR h with⟨i,t,rfl,rfl⟩|⟨x,t,rfl,rfl⟩ <;> rfl
 pyHash:=λhv h=>by
  rcases bR hv with⟨i,t,rfl,rfl⟩|⟨x,t,rfl,rfl⟩
  ·show εq 0
  ·show εr 0
 eqBool:=λhu hv h=>by
  rcases bR hu with⟨i,t,rfl,rfl⟩|⟨x,t,rfl,rfl⟩
  ·rcases bR hv with⟨j,u,rfl,rfl⟩|⟨y,u,rfl,rfl⟩
   ·rw[OL]at h;show wpAny_eqBool_int h
   ·rw[ON]at h;show SeqAt.EqAt.int_str i t y u _ _ _ _ h
  ·rcases bR hv with⟨j,u,rfl,rfl⟩|⟨y,u,rfl,rfl⟩
   ·rw[OO]at h;show SeqAt.EqAt.str_int x t j u _ _ _ _ h
   ·rw[OM]at h;show wpAny_eqBool_str h
 «strs»:=λk x t v h=>by
  rcases bR h with⟨i,u,rfl,e⟩|⟨y,u,rfl,e⟩
  ·show nomatch e
  ·injection e with e1 _;subst e1;cases v <;> rfl
def CQ(prog)(w)(i)(t):(bH prog w).is (.inl i) (.int i t)=true:=Hi i t
def vY(prog)(w)(x)(t):(bH prog w).is (.inr x) (.str x t)=true:=Hj x t
inductive V where
 |non|bl (b:Bool)|int (i:Int)|str (x:Str)|byt (b:Array UInt8)|flt (b:UInt64)|ref (a:Addr)|ty (n:String)
 deriving DecidableEq
abbrev RelV:V->gV->Prop
 |.non,u=>u=yf
 |.bl b,u=>u=Value.bool b
 |.int i,u=>∃t,u=VN i t
 |.str x,u=>∃t,u=Value.str x t
 |.byt b,u=>∃t,u=Value.bytes b t
 |.flt b,u=>∃t,u=Value.float b t
 |.ref a,u=>u=yg a
 |.ty n,u=>u=Value.type n
@[reducible]def aO:k_ V->YX 0->Prop:=Paired RelV
variable{us:YX 0}
def aO.length{xs:k_ V}(r:ZK us):xs.l=us.l:=yr r
def aO.get:∀{xs:k_ V}{us:YX 0}{i:Nat}{x:V},ZK us->xs[i]?=a8 x->∃u,us[i]?=a8 u/\P2 u
 |_,_,_,_,.nil,e=>by simp at e
 |_,_,0,_,.cons r _,e=>by simp at e;subst e;show A0 rfl r
 |_,_,i+1,x,.cons _ t,e=>by
  let(u,(h),H):=aO.get t<|d0 e;show I1b u (d0 h) H
variable{u:gV}
def aO.set{x:V}(r:P2 u):∀{xs:k_ V}{us:YX 0}(i),ZK us->aO (xs.set i x) (us.set i u)
 |_,_,_,.nil=>.nil
 |_,_,0,.cons _ t=>.cons r t
 |_,_,i+1,.cons q t=>.cons q (aO.set r i t)
def aO.append:∀{xs ys:k_ V}{us ws:YX 0},ZK us->aO ys ws->aO (xs++ys) (us++ws)
 |_,_,_,_,.nil,s=>s
 |_,_,_,_,.cons r t,s=>.cons r (aO.append t s)
def aO.take:∀{xs:k_ V}{us:YX 0}(n),ZK us->aO (xs.take n) (us.take n)
 |_,_,0,_=>.nil
 |_,_,_+1,.nil=>.nil
 |_,_,n+1,.cons r t=>.cons r (aO.take n t)
def aO.drop:∀{xs:k_ V}{us:YX 0}(n),ZK us->aO (xs.drop n) (us.drop n)
 |_,_,0,r=>r
 |_,_,_+1,.nil=>.nil
 |_,_,n+1,.cons _ t=>aO.drop n t
abbrev oD:l7 V->l7 gV->Prop
 |some v,a8 u=>Yi u
 |none,a9=>True
 |_,_=>False
abbrev KV{κ:Type}:k_ (κ×V)->k_ (κ×gV)->Prop:=Paired λ(p:κ×V)(q:κ×gV)=>p.1=q.1/\RelV p.2 q.2
abbrev kV:Key->V
 |.inl i=>.int i
 |.inr x=>.str x
inductive HO where
 /-- a list -/
 |lst (xs:k_ V)
 /-- a tuple (never changes) -/
 |tup (xs:k_ V)
 /-- a dict whose keys are ints and texts;one whose keys are tuples of ints and texts (the empty one is both) -/
 |dK (kvs:k_ (Key×V))|dT (kvs:k_ (k_ Key×V))
 /-- a set of ints: its members,its size -/
 |set (S:Int->Bool) (n:Nat)
 /-- an instance of the class at C,its dict at dx,its attributes -/
 |ins (C dx:Addr) (fs:k_ (Str×V))
 /-- the dict of the instance at x -/
 |own (x:Addr)
 /-- the dict of an exception -/
 |xd (fs:k_ (Str×V))
 /-- a bound method,f of x -/
 |met (f x:Addr)
 /-- a range object lo,lo+1,.. below hi -/
 |rng (lo hi:Int)
 /-- a thing that is known to the object (the script;a dict while a loop walks it): read,never written while it is so -/
 |frz (o:Obj) (u:HO)
 /-- a code object's table -/
 |tbl (ps:Array Value)
 /-- any other thing,by what is true of its one object (a def of one's own: SetO a S n:=HO.ext λh=>..) -/
 |ext (φ:Heap->Prop)
@[reducible]def Hp:=h_->l7 HO
abbrev upd(H:Hp)(a:h_)(o:HO):Hp:=λb=>if b=a then a8 o else H b
variable{H:Hp}{a:h_}
def aL{o:HO}:Zt o a=a8 o:=by unfold upd;rw[if_pos rfl]
def aG{b:h_}{o:HO}(h:b≠a):Zt o b=H b:=by unfold upd;rw[ZU 0]
def Ra{b:h_}{o u:HO}(h:H a=a8 o)(h':H b=a8 u)(d:o≠u):a≠b:=by intro e;subst e;rw[h]at h';show d<|wu h'
def bO{b:h_}{o:HO}(h:H a=a8 o)(h':H b=a9):a≠b:=by intro e;subst e;rw[h]at h';cases h'
abbrev wV(h:jo)(a:h_)(items:K_ 0):Prop:=∃o,YC 0=a8 o/\o.cls=.type "tuple" /\ (∃n,o.data=.seq items n)/\o.dict=a9
variable{items:K_ 0}
def wV.is{h:jo}(x:wV h a items):PyProof.Rows.IsTup h a items:=by obtain ⟨o,h1,h2,h3,_⟩:=x;exact (I1c o h1 h2 h3)
def wV.lt{h:jo}(x:wV h a items):a<h.objs.size:=by obtain ⟨_,h1,_⟩:=x;exact vy h1
def wV.new(h:jo)(i):wV (h.push {cls:=.type "tuple",data:=.seq i 0}) h.objs.size i:=I1d _ (YU rfl) rfl ⟨_,rfl⟩ rfl
section
variable(P:j3)(w:j2)
abbrev bS(H:Hp)(h:jo)(a:h_):HO->Prop
 |.lst xs=>xs.l<=wa/\∃(its:YX 0)(n:Nat),ZK its/\YC 0=a8 {cls:=.type "list",data:=.seq its.toArray n}
 |.tup xs=>xs.l<=wa/\∃its:YX 0,ZK its/\wV h a its.toArray
 |.dK kvs=>kvs.l<=wa/\(a == zx)=false/\∃vs,βX vs/\h.DictOf (bH P w) a vs
 | .dT kvs=>kvs.l<=wa/\(a == zx)=false/\∃ xs:k_ (γ7 0×h_×gV),
   Paired (λ(p:γ7 0×V)(q:γ7 0×h_×gV)=>p.1=q.1/\H q.2.1=a8 (.tup<|p.1.map kV)/\RelV p.2 q.2.2) kvs xs/\
   ∃o es ep,YC 0=a8 o/\o.ExactDict/\o.data=.dict es ep/\es.toList=xs.map (entryOfKey<|tupleKind<|bH P w)/\(xs.map (·.1)).Nodup
 |.set S n=>h.SetOf (intKind P w) a S n
 | .ins C dx fs=>H dx=a8 (.own a)/\fs.l<=1000/\dx≠a/\YC 0=a8 (Wm C dx)/\
   ∃mA,h.Ns1 dx mA/\(∀f,oD (ZL 0)<|mA f)/\PySem.Within mA (fs.map (·.1))
 |.own _=>∃o,YC 0=a8 o
 |.xd fs=>∃mA,h.Ns1 a mA/\∀f,oD (ZL 0)<|mA f
 |.rng lo hi=>∃t u v,YC 0=a8 {cls:=.type "range",data:=.fields #[.int lo t,.int hi u,.int 1 v]}
 |.frz o u=>YC 0=a8 o/\bS H h a u
 |.tbl ps=>YC 0=a8 {cls:=.none,data:=.fields ps}
 |.met f x=>YC 0=a8 (PySem.W.methodObj (.ref f)<|.ref x)
 |.ext φ=>φ h/\(∃o,YC 0=a8 o)/\∀h1 h2:jo,φ h1->(∀o,h1.get? a=a8 o->h2.get? a=a8 o)->φ h2
abbrev HOk(H:Hp)(h:jo):Prop:=∀a o,H a=a8 o->Yj o
end
variable{P:j3}{w:j2}
def bS.lt{h:jo}{o:HO}(x:Yj o):a<h.objs.size:=by
 cases o with
 |lst X=>let⟨_,_,_,_,e⟩:=x;show vy e
 |tup X=>let⟨_,_,_,p⟩:=x;show wV.lt p
 |dK k=>let⟨_,_,_,_,o,_,_,e,_⟩:=x;show vy e
 |dT k=>let⟨_,_,_,_,o,_,_,e,_⟩:=x;show vy e
 |set S n=>let⟨o,_,_,_,e,_⟩:=x;show vy e
 |ins C d s=>let⟨_,_,_,e,_⟩:=x;show vy e
 |own y=>let⟨_,e⟩:=x;show vy e
 |xd s=>let⟨_,⟨_,_,_,e,_⟩,_⟩:=x;show vy e
 |rng l i=>let⟨_,_,_,e⟩:=x;show vy e
 |frz b u=>let⟨e,_⟩:=x;show vy e
 |tbl z=>exact vy<|x
 |met f y=>exact vy<|x
 |ext v=>let⟨_,⟨_,e⟩,_⟩:=x;show vy e
def Paired.mapP{α β:Type}{F G:α->β->Prop}:∀{l₁:k_ α}{l₂:k_ β},Paired F l₁ l₂->(∀a b,F a b->G a b)->Paired G l₁ l₂
 |_,_,.nil,_=>.nil
 |_,_,.cons r t,f=>.cons (f _ _ r) (Paired.mapP t f)
variable{H':Hp}{h':jo}
def bS.stay{h:jo}{o:HO}(x:Yj o)(k:∀b u,(b=a\/H b=a8 (.own a))->Zm 0=a8 u->YI 0=a8 u)(j:∀b,H b=a8 (.own a)->H' b=a8 (.own a))(g:∀b X,H b=a8 (.tup X)->H' b=a8 (.tup X)):bS P w H' h' a o:=by
 induction o with
 |lst X=>let⟨z,i,n,r,e⟩:=x;show(z,i,n,r,q7 (.inl rfl) e)
 |tup X=>let⟨z,i,r,O,e,c⟩:=x;show(z,i,r,O,q7 (.inl rfl) e,c)
 |dK K=>let⟨z,y,V,r,O,s,E,e,c⟩:=x;show(z,y,V,r,O,s,E,q7 (.inl rfl) e,c)
 |dT K=>let⟨z,y,X,r,O,s,E,e,c⟩:=x;show(z,y,X,αE 0 λp q z=>⟨z.1,g _ _ z.2.1,z.2.2⟩,O,s,E,q7 (.inl rfl) e,c)
 |set S n=>let⟨O,s,E,t,e,c⟩:=x;show I4b O s E t (q7 (.inl rfl) e) c
 |ins C Z F=>let⟨d,z,N,e,m,⟨D,s,E,l,c⟩,r⟩:=x;show(j _ d,z,N,q7 (.inl rfl) e,m,(I3b D s E (q7 (.inr d) l) c),r)
 |own y=>let⟨O,e⟩:=x;show(O,q7 (.inl rfl) e)
 |xd F=>let⟨m,⟨D,s,E,e,c⟩,r⟩:=x;show(m,(I3b D s E (q7 (.inl rfl) e) c),r)
 |rng L Y=>let⟨t,u,v,e⟩:=x;show I3a t u v<|k _ _ (.inl rfl) e
 |frz O u I=>let⟨e,q⟩:=x;show(q7 (.inl rfl) e,I q)
 |tbl U=>have e:=x;show k a _ (.inl rfl) e
 |met f y=>
  let e:YC 0=a8 (PySem.W.methodObj _ _):=x
  change ε0 0=a8 (PySem.W.methodObj _ _)
  show k a _ (.inl rfl) e
 |ext R=>let⟨p,⟨o,e⟩,T⟩:=x;show(T _ _ p λo q=>q7 (.inl rfl) q,⟨o,q7 (.inl rfl) e⟩,T)
def HOk.lt{h:jo}{o:HO}(x:X8 h)(e:H a=a8 o):a<h.objs.size:=(x a o e).lt
def HOk.fresh{h:jo}(x:X8 h)(e:h.objs.size<=a):H a=a9:=by
 cases q:H a with
 |none=>rfl
 |some u=>exact absurd (wb (x.lt q) e)<|VO _
def HOk.kept{h:jo}(x:X8 h)(k:∀b u,Zm 0=a8 u->YI 0=a8 u):X8 h':=λa o e=>(x a o e).stay (λb u _ q=>δw q) (λ_ q=>q) λ_ _ q=>q
def HOk.laid{h:jo}{o:HO}(x:X8 h)(k:∀b u,Zm 0=a8 u->YI 0=a8 u)(p:h.objs.size<=a)(n:bS P w (Zt o) h' a o):HOk P w (Zt o) h':=λb u e=>by
 let N:=x.fresh p;by_cases B:b=a
 ·subst B;rw[aL]at e;cases e;show n
 ·rw[aG B]at e;show(x b u e).stay (λc v _ q=>k c v q) (λc q=>by rw[aG<|bO q N];show q) λc s q=>by rw[aG<|bO q N];show q
abbrev Rd(H:Hp)(a:h_)(u:HO):Prop:=H a=a8 u\/∃o,H a=a8 (.frz o u)
def Rd.ok{h:jo}{u:HO}(r:γm u)(x:X8 h):Yj u:=by
 rcases r with r|⟨o,r⟩
 ·show x a u r
 ·let(_,q):=x a _ r;show q
abbrev Mut:l7 HO->Prop
 |some (.lst _)=>True
 |some (.dK _)=>True
 |some (.dT _)=>True
 |some (.set _ _)=>True
 |some (.ins _ _ _)=>True
 |some (.ext _)=>True
 |_=>False
section
variable{h:jo}{x e:h_}{o':HO}
def HOk.write(O:X8 h)(m:Mut (H x))(E:e=x\/H e=a8 (.own x))(k:∀b u,b≠e->Zm 0=a8 u->YI 0=a8 u)(o:∃u,h'.get? e=a8 u)
  (N:bS P w (x_ x o') h' x o'):HOk P w (x_ x o') h':=λb u q=>by
 let n:∀c y,H c=a8 (.own y)->c≠x:=λc y r z=>by subst z;rw[r]at m;show m
 by_cases t:b=x
 ·subst t;rw[aL]at q;exists q;show N
 ·rw[aG t]at q;by_cases B:b=e
  ·let Q:H b=a8 (.own x):=by
    rcases E with z|z
    ·show absurd (B.trans z) t
    ·rw[B];show z
   rw[q]at Q;cases Q;let(v,V):=o;show(v,by rw[B];show V)
  ·show(O b u q).stay (λc v C r=>k c v ?_ r) (λc r=>by rw[aG<|n c b r];show r) λc s r=>by rw[aG<|(λc s r z=>by subst z;rw[r]at m;show m) c s r];show r
   rcases C with rfl|C
   ·show B
   ·rintro rfl;rcases E with z|z
    ·show n c b C z
    ·rw[C]at z;cases z;show t rfl
end
structure Un(fs ex:k_ h_)(H H':Hp)(h h':jo):Prop where
 keep:∀b o,h.get? b=some o->H b=none->b∉fs->b∉ex->h'.get? b=some o
 slot:∀b o,h.get? b=some o->H b=none->b∈fs->b∉ex->∃sl,h'.get? b=some { o with slots:=sl}
 free:∀b o,h.get? b=some o->H b=none->b∉ex->H' b=none
 there:∀b o,h.get? b=some o->b∉ex->∃o',h'.get? b=some o'
 tups:∀b xs,H b=some (.tup xs)->H' b=some (.tup xs)
 frzs:∀b o u,H b=some (.frz o u)->H' b=some (.frz o u)
 tbls:∀b ps,H b=some (.tbl ps)->∃more,H' b=some (.tbl (ps++more))
variable{H1:Hp}{ex:k_ h_}{ob:Obj}
section
variable{fs gq ex':k_ h_}{h h1 h2:jo}{x e:h_}{o:HO}
def Un.any(u:βG H1 h h1){b:h_}(q:Zm 0=a8 ob)(n:H b=a9)(X:b∉ex):∃s,h1.get? b=a8 { ob with slots:=s}:=by
 by_cases B:b∈fs
 ·show u.slot b ob q n B X
 ·show(ob.slots,u.keep b ob q n B X)
def Un.kept(k:∀b u,Zm 0=a8 u->YI 0=a8 u):βG H h h':=⟨λb O q _ _ _=>k b O q,λb O q _ _ _=>⟨O.slots,k b O q⟩,λ_ _ _ n _=>n,λb O q _=>⟨O,k b O q⟩,λ_ _ q=>q,λ_ _ _ q=>q,λ_ p q=>⟨#[],by rw[q];simp⟩⟩
def Un.refl:βG H h h:=Un.kept λ_ _ q=>q
def Un.laid(k:∀b u,Zm 0=a8 u->YI 0=a8 u)(p:h.objs.size<=a)(N:H a=a9):βG (Zt o) h h' where
 keep:=λb u q _ _ _=>δw q
 slot:=λb u q _ _ _=>⟨u.slots,δw q⟩
 free:=λb u q n _=>by rw[aG<|wc<|wb (vy q) p];show n
 there:=λb u q _=>⟨u,δw q⟩
 tups:=λb s q=>by rw[aG<|bO q N];show q
 frzs:=λb u s q=>by rw[aG<|bO q N];show q
 tbls:=λb P q=>⟨#[],by rw[aG<|bO q N,q];simp⟩
def Un.write(m:Mut (H x))(w:e=x\/H e=a8 (.own x))(k:∀b u,b≠e->Zm 0=a8 u->YI 0=a8 u)(E:∃u,h'.get? e=a8 u):βG (x_ x o) h h':=by
 let X:∀b,H b=a9->b≠x:=λb n z=>by subst z;rw[n]at m;show m
 let y:∀b,H b=a9->b≠e:=λb n z=>by
  subst z;rcases w with r|r
  ·show X b n r
  ·rw[n]at r;exists r
 let M:∀b u,H b=a8 u->¬ Mut (a8 u)->b≠x:=λb u q N z=>by subst z;rw[q]at m;show N m
 show⟨λb u q n _ _=>δw (y b n) q,λb u q n _ _=>⟨u.slots,δw (y b n) q⟩,λb u q n _=>by rw[aG (X b n)];show n,λb u q _=>?_,
  λb s q=>by rw[aG (M b _ q λz=>z)];show q,λb u s q=>by rw[aG (M b _ q λz=>z)];show q,λb p q=>⟨#[],by rw[aG (M b _ q λz=>z),q];simp⟩⟩
 by_cases B:b=e
 ·subst B;show E
 ·show(u,δw B q)
end
abbrev trk(h:jo)(H:Hp):k_ h_:=(xf h.objs.size).filter λa=>(H a).isSome
abbrev BX(h:jo)(H:Hp):jo:=PySem.W.hideAll h<|trk h H
def Hl(h)(H):(BX h H).objs.size=h.objs.size:=PySem.W.hideAll_size _ _
variable{o:Obj}
def IQ{h:jo}{b:h_}(e:Zm 0=a8 o)(n:H b=a9):(BX h H).get? b=a8 o:=PySem.W.hideAll_get _ e λm=>by let q:=(VR.mp m).2;rw[n]at q;simp at q
def LW{h:jo}{b:h_}(e:(BX h H).get? b=a8 o):Zm 0=a8 o/\H b=a9:=by
 let E:=PySem.W.of_hideAll _ e;show(E,?_);cases q:H b with
 |none=>rfl
 |some x=>have z:(BX h H).get? b=a9:=PySem.W.hideAll_none _ (VR.mpr ⟨Wi.mpr<|vy E,by simp[q]⟩);rw[z]at e;exists e
abbrev LX(g h:jo)(L:h_):b_ 0:=(xf h.objs.size).filterMap λa=>if a=L\/(g.get? a).isSome=true then a9 else(YC 0).map λo=>(a,o)
abbrev rest(g h:jo)(L d:h_):b_ 0:=(LX g h L).filter λp=>decide (p.1≠d)
structure Mod(K:vj)(mg:d9 0)(base:jo):Prop where
 kin:K.In base
 glob:base.Ns y8 mg
 blt:∃mb,base.Ns builtinsNs mb/\∀x:Str,x≠"__name__" -> mb x=Wj x
 nolimit:base.NoLimit
structure Cx where
 prog:j3
 w:j2
 K:vj
 mg:d9 0
 base:jo
 A:i_
 N:k_ Str
 s₀:g_
 H₀:Hp
 env:Env
 outer:k_ Env
 stack:k_ Env
 ex:k_ h_
 fn:Str->Bool
 calm:Bool
 pn:b_ 0
 xe:b9 0
abbrev frs(l:k_ Env):k_ h_:=l.filterMap (·.frame)
@[reducible]def Cx.fs(X:Cx):k_ h_:=frs X.outer
abbrev Vis(sc:Scope)(x:Str):Prop:=P1 0=a8 .local\/P1 0=a8 .cell\/P1 0=a8 .free
abbrev Loc(sc:Scope)(x:Str):Prop:=P1 0=a8 .local\/P1 0=a8 .cell
abbrev Look(env:Env)(h:jo)(m:d9 0)(x:Str)(u:gV):Prop:=(env.kindOf x=a8 .local/\m x=a8 u)\/((env.kindOf x=a8 .cell\/env.kindOf x=a8 .free)/\∃c,env.cells.lookup x=a8 c/\h.IsCell c (a8 u))
structure Cx.Ok(X:Cx):Prop where
 mod:Mod X.K X.mg X.base
 kind:X.env.scope.kind=.function
 glob:X.env.globals=y8
 blt:X.env.builtins=builtinsNs
 above:X.s₀.heap.objs.size<=X.env.locals
 inj:∀x y c,X.env.cells.lookup x=some c->X.env.cells.lookup y=some c->x=y
 has:∀x,(X.env.kindOf x=some .cell\/X.env.kindOf x=some .free)->∃c,X.env.cells.lookup x=some c
 cab:∀x c,X.fn x=true->X.env.cells.lookup x=some c->X.s₀.heap.objs.size<=c
 hd:X.calm=true->X.A.handled=none
 frames:X.A.frames=some X.stack
 stk:X.stack=X.outer\/(X.stack=X.env::X.outer/\X.env.frame=some X.env.locals)
 exf:∀b∈X.ex,b≠X.env.locals/\∀x c,X.env.cells.lookup x=some c->c≠b
 bs:∀b o,X.base.get? b=some o->X.s₀.heap.get? b=some o/\X.H₀ b=none
 bsz:X.base.objs.size<=X.s₀.heap.objs.size
 noex:∀b o,X.base.get? b=some o->b∉X.ex
 exfs:∀b∈X.ex,b∉X.fs
 funs:X.s₀.heap.FunFrames X.base X.outer
 frf:∀b∈X.fs,X.H₀ b=none
structure Inv(X:Cx)(c6:b_ 0)(σ:k_ (l7 V))(H:Hp)(s:g_):Prop where
 ok:X.Ok
 os:s.os=X.s₀.os
 bare:AllBare s.gens
 base:Un X.fs X.ex X.H₀ H X.s₀.heap s.heap
 loc:∃m,s.heap.Ns X.env.locals m/\∀(i:Nat)(x:Str)(v:V),X.N[i]?=some x->σ[i]?=some (some v)->Vis X.env.scope x->∃u,RelV v u/\Look X.env s.heap m x u
 cell:∀x c,X.env.cells.lookup x=some c->∃v,s.heap.IsCell c v
 free:H X.env.locals=none
 freeC:∀x c,X.env.cells.lookup x=some c->H c=none
 pin:∀p∈X.pn++c6,s.heap.get? p.1=some p.2/\H p.1=none/\p.1≠X.env.locals/\p.1∉X.fs/\∀v,p.2.data≠.cell v
 hok:HOk X.prog X.w H s.heap
 len:σ.l=X.N.l
variable{X:Cx}{c6:b_ 0}{s:g_}{ch:k_ h_}{d':Drawn}{g':εh 0}{t':Nat}{it:h_}{fc:b_ 0}{N:S2 0}{i j:Nat}{x:Str}{A:i_}{E:b9 0}{M:Model}{s':g_}
section
variable{σ:k_ (l7 V)}
def Cx.Ok.nofr(k:X.Ok){b:h_}(e:X.base.get? b=a8 o):b∉X.fs:=λh=>by have:=(k.funs.mem h).1;rw[e]at this;cases this
def Inv.bs(I:u_ s):∀b o,X.base.get? b=a8 o->tx 0=a8 o/\H b=a9:=λb o e=>⟨I.base.keep b o (δx e).1 (δx e).2 (I.ok.nofr e)<|I.ok.noex b o e,βl (δx e).1 (δx e).2<|I.ok.noex b o e⟩
def Inv.bk(I:u_ s):∀b o,X.base.get? b=a8 o->tx 0=a8 o:=λb o e=>(I.bs b o e).1
def Inv.mod(I:u_ s):Mod X.K X.mg X.base:=I.ok.mod
def Inv.kIn(I:u_ s):X.K.In s.heap:=I.ok.mod.kin.keeps I.bk
def Inv.lt(I:u_ s):X.env.locals<(b7 s):=by obtain ⟨_,hn,_⟩:=I.loc;exact hn.lt
def Inv.sz(I:u_ s):X.s₀.heap.objs.size<=(b7 s):=vz I.ok.above<|yw I.lt
def Inv.nofs(I:u_ s)(h:(b7 s)<=a):a∉X.fs:=λb=>by let(_,o,O,_):=I.ok.funs.mem b;show absurd (wb (vy O)<|vz I.sz h)<|VO _
def Inv.cne(I:u_ s):∀x c,A2 0=a8 c->c≠X.env.locals:=λx c e z=>by let(v,o,(y),d):=βH e;let(m,(w,E,p,O,h,_),_):=I.loc;rw[z,O]at y;exists y;rw[h]at d;exists d
def Inv.funs(I:u_ s):αV X.outer:=by
 let a:∀(l),(∀b∈frs l,b∈X.fs)->X.s₀.heap.FunFrames X.base l->αV l:=by
  intro l
  induction l with
  |nil=>intro _ _;trivial
  |cons n r i=>rintro S ⟨k,⟨L,o,f,N,O,d⟩,R⟩;let h:=S L (by unfold frs;rw[WS,f];show vo);let(x,e):=I.base.slot L o O (I.ok.frf L h) h λz=>I.ok.exfs L z h;show(k,(I2d L _ f N e d),i (λb B=>S b (by unfold frs;rw[WS,f];show εs B)) R)
 show a _ (λ_ B=>B) I.ok.funs
def Inv.stack(I:u_ s):αV X.stack:=by
 rcases I.ok.stk with e|⟨e,h⟩
 ·rw[e];show I.funs
 ·rw[e];let(m,(n),_):=I.loc;show .cons (by rw[I.ok.kind];decide) h n ?_ I.funs;show Heap.get?_none_of_le<|vz I.ok.bsz I.ok.above
def Inv.stkSub(I:u_ s):∀b∈frs X.stack,b∈X.env.locals::X.fs:=λb h=>by
 rcases I.ok.stk with e|⟨e,f⟩
 ·rw[e]at h;show εs h
 ·rw[e]at h;unfold frs at h;rw[WS,f]at h;show h
def Inv.stkFree(I:u_ s):∀b∈frs X.stack,H b=a9:=λb h=>by
 rcases v8.mp (I.stkSub b h) with e|h
 ·rw[e];show I.free
 ·let(_,o,O,_):=I.ok.funs.mem h;show βl O (I.ok.frf b h) λz=>I.ok.exfs b z h
def Inv.step(I:u_ s)(C:∀b∈ch,(b∈X.ex\/X.s₀.heap.objs.size<=b)/\b≠X.env.locals/\(∀x c,A2 0=a8 c->c≠b)/\∀p∈X.pn++c6,p.1≠b)(E:∀b o,b≠X.env.locals->b∉X.fs->b∉ch->tx 0=a8 o->H b=a9->YI 0=a8 o)(S:∀b o,b≠X.env.locals->b∈X.fs->b∉ch->tx 0=a8 o->H b=a9->∃W,YI 0=a8 { o with slots:=W})(f:∀b o,b∉ch->tx 0=a8 o->H b=a9->H' b=a9)(T:∀b o,b∉ch->tx 0=a8 o->∃a,YI 0=a8 a)(U:∀b j,H b=a8 (.tup j)->H' b=a8 (.tup j))(F:∀b o u,H b=a8 (.frz o u)->H' b=a8 (.frz o u))(Z:∀b P,H b=a8 (.tbl P)->∃M,H' b=a8 (.tbl<|P++M))(ns:∀m,s.heap.Ns X.env.locals m->h'.Ns X.env.locals m)(Y:αJ h')(hg:AllBare g'):
  εe {s with heap:=h',gens:=g',drawn:=d',toks:=t'}:=by
 let L:∀b o,X.s₀.heap.get? b=a8 o->b≠X.env.locals:=λb o e=>wc<|wb (vy e) I.ok.above;let t:∀b o,X.s₀.heap.get? b=a8 o->b∉X.ex->b∉ch:=λb o e h B=>by
  rcases(C b B).1 with z|z
  ·show h z
  ·show absurd (wb (vy e) z) (VO _)
 let K:∀x c,A2 0=a8 c->∀v,s.heap.IsCell c v->h'.IsCell c v:=λx c e v z0=>E1b z0 λo O D=>by
  let N:=λz=>(C c z).2.2.1 x c e rfl;by_cases R:c∈X.fs
  ·let(W,q):=S c o (I.cne x c e) R N O<|I.freeC x c e;show A0 q D
  ·show(o,E c o (I.cne x c e) R N O<|I.freeC x c e,D)
 show(I.ok,I.os,hg,⟨λb o e n B h=>?_,λb o e n B h=>?_,λb o e n h=>?_,λb o e h=>?_,λb j e=>U b j<|I.base.tups b j e,λb o j e=>F b o j<|I.base.frzs b o j e,λb P e=>?_⟩,?_,λx c e=>?_,?_,λx c e=>?_,λp Q=>?_,Y,I.len)
 ·show E b o (L b o e) B (t b o e h) (αa h) (βl e n h)
 ·let(W,y):=αb h;let(V,g):=S b _ (L b o e) B (t b o e h) y<|I.base.free b o e n h;show(V,g)
 ·let(a,y):=ZV h;show f b a (t b o e h) y<|I.base.free b o e n h
 ·let(a,y):=ZV h;show T b a (t b o e h) y
 ·let(m1,y):=I.base.tbls b P e;let(m2,g):=Z b _ y;show(m1++m2,by rw[g,Array.append_assoc])
 ·let(m,(hn),hl):=I.loc;show I1b m (ns m hn) λi x v y g A=>?_;let(u,(r),l):=hl i x v y g A;show I1b u r ?_;rcases l with l|⟨k,c,e,z⟩
  ·show .inl l
  ·show .inr ⟨k,c,e,K x c e _ z⟩
 ·let(v,z):=βH e;show(v,K x c e v z)
 ·let(m,(o,_,_,O,_),_):=I.loc;show f _ o (λz=>(C _ z).2.1 rfl) O I.free
 ·let(v,o,(O),D):=βH e;show f c o (λz=>(C c z).2.2.1 x c e rfl) O<|I.freeC x c e
 ·let((e),n,J,G,d):=βm Q;let N:=λz=>(C p.1 z).2.2.2 p Q rfl;show I0e (E p.1 p.2 J G N e n) (f p.1 p.2 N e n) J G d
def Inv.un(I:u_ s)(u:Un X.fs [] H H' s.heap h')(k:αJ h'):εe {s with heap:=h',toks:=t'}:=by let(m,(o,S,P,O,r),_):=id I.loc;let(l,L):=u.any O I.free (by simp);show I.step (ch:=[]) (λ_ z=>nomatch z) (λb o _ B _ e n=>u.keep b o e n B<|by simp) (λb o _ B _ e n=>u.slot b o e n B<|by simp) (λb o _ e n=>u.free b o e n<|by simp) (λb o _ e=>u.there b o e<|by simp) u.tups u.frzs u.tbls (λy M=>by let(x,E,p,(h),R):=M;rw[O]at h;exists h;show(I3b _ E p L R)) k I.bare
def Inv.call(I:u_ s)(u:Un (frs X.stack) ch H H' s.heap h')(k:αJ h')(g:AllBare g')(C:∀b∈ch,(b∈X.ex\/X.s₀.heap.objs.size<=b)/\b≠X.env.locals/\(∀x c,A2 0=a8 c->c≠b)/\∀p∈X.pn++c6,p.1≠b):
  εe {s with heap:=h',gens:=g',drawn:=d',toks:=t'}:=by
 let(m,(o,v,P,y,r),_):=id I.loc;let(l,L):=u.any y I.free λz=>(C _ z).2.1 rfl;show I.step C (λb o L B h e n=>u.keep b o e n (λz=>(v8.mp<|I.stkSub b z).elim L B) h) (λb o _ _ h e n=>u.any e n h) (λb o h e n=>u.free b o e n h) (λb o h e=>u.there b o e h) u.tups u.frzs u.tbls (λt M=>by let(q,S,E,(O),R):=M;rw[y]at O;exists O;show(I3b _ S E L R)) k g
def Inv.turned(I:u_ s)(k:∀b o,b≠it->tx 0=a8 o->YI 0=a8 o)(N:H it=a9)(L:it≠X.env.locals)(h1:it∈X.ex\/X.s₀.heap.objs.size<=it)(h2:∀x c,A2 0=a8 c->c≠it)(y:∀p∈X.pn++c6,p.1≠it):u_ {s with heap:=h',toks:=t'}:=by
 let i:∀b u,H b=a8 u->b≠it:=λb u e z=>by rw[z,N]at e;exists e
 show I.step (ch:=[it]) (λb B=>?_) (λb o _ _ h e _=>k b o (λz=>h<|by simp[z]) e) (λb o _ _ h e _=>⟨o.slots,k b o (λz=>h<|by simp[z]) e⟩) (λ_ _ _ _ n=>n)
  (λb o h e=>⟨o,k b o (λz=>h<|by simp[z]) e⟩) (λ_ _ e=>e) (λ_ _ _ e=>e) (λb P e=>⟨#[],by rw[e];simp⟩) (λm M=>?_) (λb u e=>?_) I.bare
 ·let e:b=it:=by simpa using B
  subst e;show I0d h1 L h2 y
 ·let(o,S,E,(O),r):=M;show I3b o S E (k _ o (xy L) O) r
 ·show(γR u e).stay (λc v h q=>k c v ?_ q) (λ_ q=>q) λ_ _ q=>q;rcases h with z|z
  ·rw[z];show i b u e
  ·show i c _ z
def Inv.tok(I:u_ s)(t):u_ { s with toks:=t}:=I.un Un.refl I.hok
def Inv.kept(I:u_ s)(k:∀b u,tx 0=a8 u->YI 0=a8 u):u_ {s with heap:=h',toks:=t'}:=I.un (Un.kept k)<|I.hok.kept k
def Inv.laid{o:HO}(I:u_ s)(k:∀b u,tx 0=a8 u->YI 0=a8 u)(h:(b7 s)<=a)(n:αe (Zt o) h' a o):
  c8 (Zt o) {s with heap:=h',toks:=t'}:=I.un (Un.laid k h<|I.hok.fresh h)<|I.hok.laid k h n
def Inv.write{x e:h_}{o:HO}(I:u_ s)(m:Mut (H x))(E:e=x\/H e=a8 (.own x))(k:∀b u,b≠e->tx 0=a8 u->YI 0=a8 u)(h:∃u,h'.get? e=a8 u)(n:αe (x_ x o) h' x o):c8 (x_ x o) {s with heap:=h',toks:=t'}:=I.un (Un.write m E k h)<|I.hok.write m E k h n
def Inv.pins_of(I:u_ s)(h:∀p∈fc,s.heap.get? p.1=a8 p.2/\H p.1=a9/\p.1≠X.env.locals/\p.1∉X.fs/\∀v,p.2.data≠.cell v):Yq fc σ H s:=⟨I.ok,I.os,I.bare,I.base,I.loc,I.cell,I.free,I.freeC,λp P=>(xj.mp P).elim (λz=>βm<|y6 _ z)<|h p,I.hok,I.len⟩
def xZ(h:N.Nodup)(a:N[i]?=a8 x)(b:N[j]?=a8 x):i=j:=by let(z,e):=vg.mp a;let(y,E):=vg.mp b;show(List.getElem_inj h).mp (e.trans E.symm)
def Ba{v:V}{Q:εt 0}(I:u_ s)(hN:X.N.Nodup)(hi:X.N[i]?=a8 x)(l:ZP x)(r:Yi u)(h:∀m,Yq c6 (ε1<|a8 v) H m->(∃a,VJ a s.heap m.heap/\(a=X.env.locals\/A2 0=a8 a))->Q () m)(hf:wP (X.fn x=true\/A6 0=a8 .local) v4):X9 (storeName X.env x u) Q E s:=by
 let(m,(f),hl):=id I.loc;let Z:i<σ.l:=by rw[I.len];show(vg.mp hi).1
 let Y:=I.cne;let T:∀{a:h_}{W:jo},(∃o,C_ 0=a8 o/\H a=a9)->VJ a _ W->HOk _ X.w H W:=λ{a W} ha S b ob e=>by
  let(_,_,f):=ha;show(γR ob e).stay (λc G C q=>(S.2 c ?_).trans q) (λ_ q=>q) λ_ _ q=>q;rintro rfl;rcases C with rfl|C
  ·rw[f]at e;exists e
  ·rw[f]at C;exists C
 rcases l with K|K
 ·show wpAny_storeName_local K f (λW D S=>?_) (by rw[I.ok.kind];rfl);let(oL,_,_,Z,_):=id f;show h _ ⟨I.ok,I.os,I.bare,⟨λb o e n B l=>?_,λb o e n B l=>?_,I.base.free,λb o e l=>?_,I.base.tups,I.base.frzs,I.base.tbls⟩,(A0 D λj y T t g O=>?_),λy c e=>?_,I.free,I.freeC,λp U=>?_,T (I1b oL Z I.free) S,d0 I.len⟩ (A0 S<|.inl rfl)
  ·show(S.2 b<|wc<|wb (vy e) I.ok.above).trans (αa l)
  ·let(R,t):=αb l;show(R,(S.2 b<|wc<|wb (vy e) I.ok.above).trans t)
  ·let(o',t):=ZV l;show(o',(S.2 b<|wc<|wb (vy e) I.ok.above).trans t)
  ·by_cases J:j=i
   ·subst J;rw[hi]at t;cases t;rw[yi Z]at g;cases g
    show I1b u r (.inl ⟨K,by simp⟩)
   ·rw[ym<|xy J]at g;let(u',(r'),q):=hl j y T t g O;show I1b u' r' ?_;rcases q with⟨k,e⟩|⟨k,c,e,z⟩
    ·show .inl ⟨k,?_⟩;have:y≠x:=λe=>J<|xZ hN t<|e▸hi;simp[this,e]
    ·show .inr ⟨k,c,e,z.sameBut S<|Y y c e⟩
  ·let(G,z):=I.cell y c e;show(G,z.sameBut S<|Y y c e)
  ·let((e),n,L,nf,d):=βm U;show I0e ((S.2 p.1 L).trans e) n L nf d
 ·let F:X.fn x=true:=by simp_all
  let(c,C):=I.ok.has x<|.inl K;let(G,z):=βH C;show wpAny_storeName_cell I.ok.kind K C z<|λW U S=>?_;let(oc,(O),D):=id z;show h {s with heap:=W} ⟨I.ok,I.os,I.bare,⟨λb o e n B l=>?_,λb o e n B l=>?_,I.base.free,λb o e l=>?_,I.base.tups,I.base.frzs,I.base.tbls⟩,(I1b m (f.sameBut S<|xy<|Y x c C) λj y T t g O=>?_),λy P e=>?_,I.free,I.freeC,λp U=>?_,T (I1b oc O<|I.freeC x c C) S,d0 I.len⟩ (I1b c S<|.inr C)
  ·show(S.2 b<|wc<|wb (vy e)<|I.ok.cab x c F C).trans (αa l)
  ·let(R,t):=αb l;show(R,(S.2 b<|wc<|wb (vy e)<|I.ok.cab x c F C).trans t)
  ·let(o',t):=ZV l;show(o',(S.2 b<|wc<|wb (vy e)<|I.ok.cab x c F C).trans t)
  ·by_cases J:j=i
   ·subst J;rw[hi]at t;cases t;rw[yi Z]at g;cases g
    show I1b u r<|.inr ⟨.inl K,c,C,U⟩
   ·rw[ym<|xy J]at g;let(u',(r'),q):=hl j y T t g O;show(u',r',?_);rcases q with q|⟨k,P,e,z'⟩
    ·show .inl q
    ·show .inr ⟨k,P,e,z'.sameBut S ?_⟩;rintro rfl;show J<|xZ hN t<|I.ok.inj _ _ _ e C▸hi
  ·by_cases R:P=c
   ·subst R;show(_,U)
   ·let(w2,z2):=I.cell y P e;show(w2,z2.sameBut S R)
  ·let((e),n,L,nf,d):=βm U;show I0e ((S.2 p.1 ?_).trans e) n L nf d;intro q;rw[q,O]at e;let q':=wu e;show d G (by rw[<-q'];show D)
def yA{v:V}{Q:εt 0}(I:u_ s)(y:X.N.Nodup)(hi:X.N[i]?=a8 x)(w:ZP x)(r:Yi u)(h:∀S,Yq c6 (ε1<|a8 v) H S->Q () S)(f:wP (X.fn x=true\/A6 0=a8 .local) v4):X9 (storeName X.env x u) Q E s:=Ba I y hi w r (λS z _=>h S z) f
def Inv.call'(I:u_ s)(O:s'.os=s.os)(u:Un (frs X.stack) ch H H' s.heap s'.heap)(o:αJ s'.heap)(g:αr 0)(h:∀b∈ch,(b∈X.ex\/X.s₀.heap.objs.size<=b)/\b≠X.env.locals/\(∀x c,A2 0=a8 c->c≠b)/\∀p∈X.pn++c6,p.1≠b):εe s':=by let(z,G,d,t,y):=s';let e:=O;subst e;show I.call u o g h
end
@[reducible]def XK:=gV->l7 h_->Hp->Prop
@[reducible]def St:=k_<|l7 V
@[reducible]def VK:=V->Hp->Prop
@[reducible]def TE:=St->Hp->VK->Prop
@[reducible]def TT:=St->Hp->(Bool->Hp->Prop)->Prop
@[reducible]def TA:=St->Hp->(k_ V->Hp->Prop)->Prop
structure Ends where
 nx:St->Hp->Prop
 rt:VK
 bk:St->Hp->Prop:=λ_ _=>False
 ct:St->Hp->Prop:=λ_ _=>False
@[reducible]def TS:=Ends->St->Hp->Prop
abbrev EP(X:Cx)(c6:b_ 0)(σ:St)(Q:VK)(u:gV)(s':g_):Prop:=∃v H',εe s'/\Yi u/\Q v H'
abbrev TP(X:Cx)(c6:b_ 0)(σ:St)(Q:Bool->Hp->Prop)(b:Bool)(s':g_):Prop:=∃H',εe s'/\Q b H'
abbrev AP(X:Cx)(c6:b_ 0)(σ:St)(Q:k_ V->Hp->Prop)(us:YX 0)(s':g_):Prop:=∃vs H',εe s'/\β3 0/\Q vs H'
abbrev SP(X:Cx)(c6:b_ 0)(D:Ends)(f:Flow)(s':g_):Prop:=
 match f with
 |.next=>∃σ' H',αv 0/\D.nx σ' H'
 |.brk=>∃σ' H',αv 0/\D.bk σ' H'
 |.cont=>∃σ' H',αv 0/\D.ct σ' H'
 |.ret u=>∃v σ' H',αv 0/\Yi u/\D.rt v H'
abbrev PE(X:Cx)(e:j_)(t:TE):Prop:=
 ∀(c6:b_ 0)(s:g_)(σ:St)(H:Hp)(Q:VK),u_ s->t σ H Q->wpAny (c3 X) X.A (A5 0) (X3 Q) X.xe s
abbrev PT(X:Cx)(e:j_)(t:TT):Prop:=
 ∀(c6:b_ 0)(s:g_)(σ:St)(H:Hp)(Q:Bool->Hp->Prop),u_ s->t σ H Q->wpAny (c3 X) X.A (βY<|eval e X.env) (εL Q) X.xe s
abbrev PW(X:Cx)(e:j_)(t:TT):Prop:=
 ∀(whole:Sem gV)(c6:b_ 0)(s:g_)(σ:St)(H:Hp)(Q:Bool->Hp->Prop),u_ s->t σ H Q->wpAny (c3 X) X.A (βY whole) (εL Q) X.xe s
variable{e:j_}
def PW.pt{t:TT}(h:PW X e t):PT X e t:=h _
abbrev PA(X:Cx)(es:k_ j_)(t:TA):Prop:=
 ∀(pos:Pos)(c6:b_ 0)(s:g_)(σ:St)(H:Hp)(Q:k_ V->Hp->Prop),u_ s->t σ H Q->wpAny (c3 X) X.A (spliced<|backTo pos<|wj es X.env) (AP X c6 σ Q) X.xe s
abbrev PS(X:Cx)(st:ko)(t:TS):Prop:=
 ∀(c6:b_ 0)(s:g_)(σ:St)(H:Hp)(D:Ends),u_ s->t D σ H->wpAny (c3 X) X.A (exec st X.env) (SP X c6 D) X.xe s
abbrev PSs(X:Cx)(st:k_ ko)(t:TS):Prop:=
 ∀(c6:b_ 0)(s:g_)(σ:St)(H:Hp)(D:Ends),u_ s->t D σ H->wpAny (c3 X) X.A (execs st X.env) (SP X c6 D) X.xe s
def thn{α:Type}{t:Sem α}{Q Q':α->g_->Prop}(h:X9 t Q E s)(H:∀a s,Q a s->Q' a s):X9 t Q' E s:=zh h H λ_ _ x=>x
abbrev Rb(i:Nat):TE:=λσ H Q=>∃v,σ[i]?=a8 (a8 v)/\Q v H
abbrev tC(v:V):TE:=λ_ H Q=>Q v H
variable{pos:Pos}
def yB(y:X.N[i]?=a8 x)(V:αk x)(D:wP ((x == ("__debug__" : Str))=false) xL)(d:wP ((x == ("__classdict__" : Str))=false) xL):V_ (.Name x pos) (Rb i):=by
 intro p s w H Q I h;let(v,(e),h):=h;let(m,(n),L):=I.loc;let(u,(r),l):=L i x v y e V;let f:EP X p w Q u s:=I2c v H I r h;rcases l with⟨k,M⟩|⟨k,c,z,C⟩
 ·show wpAny_Name (wpAny_loadName_local I.ok.kind k n M f) D
 ·rcases k with k|k
  ·show wpAny_Name (wpAny_loadName_cell I.ok.kind k z C f) D
  ·show wpAny_Name (wpAny_loadName_free I.ok.kind k z C f d) D
def IR{i j pos}:V_ (.Constant (.int i) j pos) (tC<|.int i):=λ_ _ _ H _ I h=>wpAny_Constant_int<|I2c (.int i) H (YT 0) ⟨_,rfl⟩ h
def OP{j pos}:V_ (.Constant .none j pos) (tC .non):=λ_ _ _ H _ I h=>Constant_none<|I2c .non H I rfl h
def OQ{x j pos}:V_ (.Constant (.str x) j pos) (tC<|.str x):=λ_ _ _ H _ I h=>Calls.Constant_str<|I2c (.str x) H (YT 0) ⟨_,rfl⟩ h
abbrev Gl(X:Cx)(x:Str):Prop:=X.env.kindOf x=a8 .globalImplicit
variable{Q:b9 0}
def gF{σ:St}(I:u_ s)(g:Zu x)(m:X.mg x=a8 u)(h:Q u s)(d:wP ((x == ("__debug__" : Str))=false) xL):wpAny (c3 X) X.A (eval (.Name x pos) X.env) Q E s:=βI (Calls.loadGlobal_global (by rw[I.ok.glob];show γS 0) m h) d
def oE{σ:St}(I:u_ s)(g:Zu x)(m:X.mg x=a9)(v:Wj x=a8 u)(h:Q u s)(n:wP (x≠"__name__" ) xL)(d:wP ((x == ("__debug__" : Str))=false) xL):wpAny (c3 X) X.A (eval (.Name x pos) X.env) Q E s:=by let(b,(z),y):=I.mod.blt;show βI (Calls.loadGlobal_builtin (by rw[I.ok.glob];show γS 0) m (by rw[I.ok.blt];show z.keeps I.bk) ((y x n).trans v) h) d
def xG{v:V}(g:Zu x)(m:X.mg x=a8 u)(r:Yi u)(d:wP ((x == ("__debug__" : Str))=false) xL):V_ (.Name x pos) (tC v):=
 λ_ _ _ H _ I h=>gF I g m (I2c v H I r h) d
def G4{v:V}(g:Zu x)(m:X.mg x=a9)(z:Wj x=a8 u)(r:Yi u)(n:wP (x≠"__name__" ) xL)(d:wP ((x == ("__debug__" : Str))=false) xL):V_ (.Name x pos) (tC v):=
 λ_ _ _ H _ I h=>oE I g m z (I2c v H I r h) n d
abbrev tB(t:TE):TT:=λσ H Q=>t σ H λx H1=>∃c,x=.bl c/\Q c H1
def Eu{t:TE}(h:V_ e t)(E:wP (∀w,βY w=(do let v <-w;standAt e.pos;holding [v] (truthy v))) kt):PT X e (tB t):=by
 show λp s o H Q I W=>isTrue_plain (thn (h p s o H _ I W) λv S w0=>?_)<|E _
 let(x,z,y,r,u):=w0
 let(d,rfl,q):=u
 subst r
 exact Xm<|I1b z y q
abbrev Rc(t u:TT):TT:=λσ H Q=>t σ H λc H1=>if c=true then u σ H1 Q else Q false H1
abbrev tOr(t u:TT):TT:=λσ H Q=>t σ H λc H1=>if c=true then Q true H1 else u σ H1 Q
abbrev Re(t:TT):TT:=λσ H Q=>t σ H λc H1=>Q (!c) H1
variable{tA:TT}
def G5{a:j_}(A:PT X a tA):PW X (.BoolOp .And [a] pos) tA:=by
 show λw p s z H Q I h=>isTrue_and<|thn (A p s z H Q I h) λc S e=>?_;cases c with
 |true=>exact isTrue_and_nil e
 |false=>exact e
def OR{a:j_}(A:PT X a tA):PW X (.BoolOp .Or [a] pos) tA:=by
 show λw p s z H Q I h=>isTrue_or<|thn (A p s z H Q I h) λc S e=>?_;cases c with
 |false=>exact isTrue_or_nil e
 |true=>exact e
variable{i8:TT}
def Ew{a:j_}{b:j_}{rest:k_ j_}(A:PT X a tA)(hb:PW X (.BoolOp .And (b::rest) pos) i8):PW X (.BoolOp .And (a::b::rest) pos) (Rc tA i8):=by
 show λw p s x H Q I h=>isTrue_and<|thn (A p s x H _ I h) λc S z0=>E1b z0 λz y q=>?_;cases c with
 |true=>exact hb w p S x z Q y q
 |false=>exact I1b z y q
def Rf{a:j_}{b:j_}{rest:k_ j_}(A:PT X a tA)(hb:PW X (.BoolOp .Or (b::rest) pos) i8):PW X (.BoolOp .Or (a::b::rest) pos) (tOr tA i8):=by
 show λw p s x H Q I h=>isTrue_or<|thn (A p s x H _ I h) λc S z0=>E1b z0 λz y q=>?_;cases c with
 |true=>exact I1b z y q
 |false=>exact hb w p S x z Q y q
def IS{a:j_}(A:PT X a tA):PT X (.UnaryOp .Not a pos) (Re tA):=by show λp s y H Q I h=>isTrue_not<|A p s y H (λc z=>Q (!c) z) I h
def OS{a:j_}{op}{t:TE}(h:V_ a t):V_ (.BoolOp op [a] pos) t:=λp s z H Q I w=>BoolOp_one<|h p s z H Q I w
abbrev tIf(t:TT)(ta tb:TE):TE:=λσ H Q=>t σ H λc H1=>if c=true then ta σ H1 Q else tb σ H1 Q
variable{ta tb:TE}
def IT{a:j_}{b:j_}{c:j_}(C:PT X c tA)(A:V_ a ta)(hb:V_ b tb):V_ (.IfExp c a b pos) (tIf tA ta tb):=by
 show λp s z H Q I h=>wpAny_IfExp<|thn (C p s z H _ I h) λd S z0=>E1b z0 λy x q=>?_;cases d with
 |true=>exact A p S z y Q x q
 |false=>exact hb p S z y Q x q
abbrev SqL(K:vj)(H:Hp)(a:h_)(xs:k_ V):Prop:=
 γm (.lst xs)\/
  ∃(o:Obj)(its:K_ 0)(n:Nat),δc 0=a8 o/\o.cls=.type "list" /\ o.dict=a9/\o.data=.seq its n/\its.size<=wa/\ZK its.toList
abbrev SqT(K:vj)(H:Hp)(a:h_)(xs:k_ V):Prop:=
 γm (.tup xs)\/
  ∃(o:Obj)(its:K_ 0)(n:Nat),δc 0=a8 o/\o.cls=.type "tuple" /\ o.data=.seq its n/\its.size<=wa/\ZK its.toList/\o.dict=a9
abbrev U6:gV->l7 V
 |.none=>a8 .non
 |.bool b=>a8 (.bl b)
 |.int i _=>b0 i
 |.str x _=>a8 (.str x)
 |.bytes b _=>a8 (.byt b)
 |.float b _=>a8 (.flt b)
 |.ref a=>a_ a
 |.type n=>a8 (.ty n)
 |_=>a9
def RelV.abs{x:V}(r:P2 u):U6 u=a8 x:=by
 cases x with
 |non=>subst r;rfl
 |bl _=>subst r;rfl
 |int _=>let⟨t,rfl⟩:=r;rfl
 |str _=>let⟨t,rfl⟩:=r;rfl
 |byt _=>let⟨t,rfl⟩:=r;rfl
 |flt _=>let⟨t,rfl⟩:=r;rfl
 |ref _=>subst r;rfl
 |ty _=>subst r;rfl
def RelV.inj{x y:V}(r:P2 u)(q:X_ u):x=y:=wu<|r.abs.symm.trans q.abs
def aO.inj:∀{xs ys:k_ V}{us:YX 0},ZK us->aO ys us->xs=ys
 |_,_,_,.nil,.nil=>rfl
 |_,_,_,.cons r t,.cons R T=>by rw[r.inj R,aO.inj t T]
variable{K:vj}
section
variable{σ:St}{xs ys:k_ V}
def SqL.of(h:H a=a8 (.lst xs)):Yu a xs:=.inl<|.inl h
def SqT.of(h:H a=a8 (.tup xs)):Yk a xs:=.inl<|.inl h
def Inv.list(I:u_ s)(h:αK a xs):∃i,ZK i/\PlainL s.heap a i.toArray/\xs.l<=wa:=by
 rcases h with h|⟨o,i,n,k,c,d,S,Z,r⟩
 ·let(z,i,n,r,e):=h.ok I.hok;show(i,r,(I2d _ n e rfl rfl rfl),z)
 ·show(i.toList,r,(I2d o n (I.kIn a o k) c d<|d0 S),?_);let e:=r.l;simp at e;omega
def Inv.tuple(I:u_ s)(h:βn a xs):∃i,ZK i/\Zv a i.toArray/\xs.l<=wa:=by
 rcases h with h|⟨o,i,n,k,c,S,Z,r,_⟩
 ·let(z,i,r,p):=h.ok I.hok;show I1c i r p.is z
 ·show I1c i.toList r ⟨o,I.kIn a o k,c,n,d0 S⟩ ?_;let e:=r.l;simp at e;omega
def Inv.list_inj(I:u_ s)(h:αK a xs)(h':αK a ys):xs=ys:=by
 let(t,r,(o,n,e,_,_,d),_):=I.list h;let(i,R,(O,N,E,_,_,D),_):=I.list h';rw[e]at E;exists E;rw[d]at D;injection D with d1 _;have:t=i:=by simpa using βo d1
 subst this;show r.inj R
def Inv.tuple_inj(I:u_ s)(h:βn a xs)(h':βn a ys):xs=ys:=by
 let(t,r,(o,e,_,n,d),_):=I.tuple h;let(i,R,(O,E,_,N,D),_):=I.tuple h';rw[e]at E;exists E;rw[d]at D;injection D with d1 _;have:t=i:=by simpa using βo d1
 subst this;show r.inj R
end
@[reducible]def Cx.wish(X:Cx)(E:b9 0):Cx:={ X with xe:=E}
@[reducible]def Cx.nox(X:Cx):Cx:=X.wish λ_ _=>False
def Cx.Ok.wish(o:X.Ok)(E):(X.wish E).Ok:=⟨o.mod,o.kind,o.glob,o.blt,o.above,o.inj,o.has,o.cab,o.hd,o.frames,o.stk,o.exf,o.bs,o.bsz,o.noex,o.exfs,o.funs,o.frf⟩
def Cx.Ok.unwish(o:(X.wish E).Ok):X.Ok:=⟨o.mod,o.kind,o.glob,o.blt,o.above,o.inj,o.has,o.cab,o.hd,o.frames,o.stk,o.exf,o.bs,o.bsz,o.noex,o.exfs,o.funs,o.frf⟩
section
variable{σ:St}
def Inv.wish(I:u_ s)(E):Inv (X.wish E) c6 σ H s:=⟨I.ok.wish E,I.os,I.bare,I.base,I.loc,I.cell,I.free,I.freeC,I.pin,I.hok,I.len⟩
def Inv.unwish(I:Inv (X.wish E) c6 σ H s):u_ s:=⟨I.ok.unwish,I.os,I.bare,I.base,I.loc,I.cell,I.free,I.freeC,I.pin,I.hok,I.len⟩
def SP.unwish{D:Ends}{f:Flow}(h:SP (X.wish E) c6 D f s'):SP X c6 D f s':=by
 cases f with
 |next=>let⟨z,y,I,q⟩:=h;show δd q
 |brk=>let⟨z,y,I,q⟩:=h;show δd q
 |cont=>let⟨z,y,I,q⟩:=h;show δd q
 |ret u=>let⟨v,z,y,I,r,q⟩:=h;show I3c v z y I.unwish r q
def PSs.nox{st:k_ ko}{t:TS}(h:PSs X.nox st t):εu st t:=λp s y H D I w=>zh (h p s y H D (I.wish _) w) (λ_ _ q=>q.unwish) λ_ _ z=>zb z
end
variable{st:ko}{te:TE}{tc:TT}
section
variable{rest:k_ ko}{t u:TS}
abbrev Rg:TS:=λD σ H=>β4 H
abbrev U7(t u:TS):TS:=λD σ H=>t { D with nx:=u D} σ H
def G6:εu [] Rg:=λ_ _ σ H _ I h=>wpAny_execs_nil ⟨σ,H,I,h⟩
def IU(h1:PS X st t)(h2:εu rest u):εu (st::rest) (U7 t u):=by
 show λp s w H D I h=>wpAny_execs_cons<|thn (h1 p s w H { D with nx:=u D} I h) λf S q=>?_;cases f with
 |next=>show E2b q λz y x q=>?_;show h2 p S z y D x q
 |ret v=>exact q
 |brk=>exact q
 |cont=>exact q
def BY(h1:PS X st t):εu [st] t:=by
 show λp s z H D I h=>wpAny_execs_cons<|thn (h1 p s z H D I h) λf S q=>?_;cases f with
 |next=>exact wpAny_execs_nil q
 |ret v=>exact q
 |brk=>exact q
 |cont=>exact q
abbrev Rh:TS:=λD σ H=>D.ct σ H
def CS:PS X (.Continue pos) Rh:=λ_ _ z H _ I h=>wpAny_Continue<|I2b z H I h
def Inv.quiet{σ:St}(I:u_ s):interactive X.env=false:=by simp[interactive,I.ok.kind]
abbrev Ri(te:TE):TS:=λD σ H=>te σ H λ_ H1=>β4 H1
def LY(E:V_ e te)(S:wP (Xs e a9 pos.line X.env=αQ 0) zn):PS X (.Expr e pos) (Ri te):=by show λp s z H D I h=>wpAny_Expr_any (thn (γn h) λv o z0=>E2c z0 λx y w r q=>(I2b z y w q)) I.quiet S
abbrev U8(te:TE):TS:=λD σ H=>te σ H D.rt
def OT(E:V_ e te):PS X (.Return (a8 e) pos) (U8 te):=by show λp s z H D I h=>wpAny_Return_some<|thn (γn h) λv S z0=>E2c z0 λx y w r q=>(I3c x z y w r q)
abbrev Rj(c:TT)(t u:TS):TS:=λD σ H=>c σ H λb H1=>if b=true then t D σ H1 else u D σ H1
def Oa{c:j_}{a b:k_ ko}(C:PT X c tc)(A:εu a t)(hb:εu b u):PS X (.If c a b pos) (Rj tc t u):=by
 show λp s z H D I h=>wpAny_If<|thn (C p s z H _ I h) λd S z0=>E1b z0 λy x q=>?_;cases d with
 |true=>exact A p S z y D x q
 |false=>exact hb p S z y D x q
end
@[reducible]def TG:=V->St->Hp->(St->Hp->Prop)->Prop
@[reducible]def TGs:=k_ V->St->Hp->(St->Hp->Prop)->Prop
abbrev PG(X:Cx)(target:j_)(t:TG):Prop:=
 ∀(c6:b_ 0)(s:g_)(σ:St)(H:Hp)(v:V)(u:gV)(Q:St->Hp->Prop),u_ s->Yi u->t v σ H Q->
  wpAny (c3 X) X.A (assign target X.env u) (λ_ s'=>∃σ' H',αv 0/\Q σ' H') X.xe s
abbrev PGs(X:Cx)(ts:k_ j_)(t:TGs):Prop:=
 ∀(c6:b_ 0)(s:g_)(σ:St)(H:Hp)(vs:k_ V)(us:YX 0)(Q:St->Hp->Prop),u_ s->β3 0->t vs σ H Q->
  wpAny (c3 X) X.A (assignInOrder ((Wq ts X.env).map (·.2)) us) (λ_ s'=>∃σ' H',αv 0/\Q σ' H') X.xe s
@[reducible]def U9:=V->V->V->Hp->(Hp->Prop)->Prop
abbrev U'(X:Cx)(t:U9):Prop:=
 ∀(c6:b_ 0)(s:g_)(σ:St)(H:Hp)(o i v:V)(ov iv u:gV)(Q:Hp->Prop),u_ s->RelV o ov->RelV i iv->Yi u->t o i v H Q->
  wpAny (c3 X) X.A (setItem ov iv u) (λ_ s'=>∃H',εe s'/\Q H') X.xe s
abbrev G7(i:Nat):TG:=λv σ H Q=>Q (ε1<|a8 v) H
def LZ(y:X.N.Nodup)(hi:X.N[i]?=a8 x)(w:ZP x)(f:wP (X.fn x=true\/A6 0=a8 .local) v4):PG X (.Name x pos) (G7 i):=by show λp s t H v u Q I r h=>wpAny_assign_Name<|yA I y hi w r (λS z=>(I2b _ H z h)) f
abbrev Ua:TGs:=λvs σ H Q=>vs=[]/\Q σ H
abbrev Rk(t:TG)(u:TGs):TGs:=λvs σ H Q=>∃v r,vs=v::r/\t v σ H λσ' H'=>u r σ' H' Q
def M0:PGs X [] Ua:=by
 intro p s z H v u Q I r h;let(e,h):=h;subst e;cases r
 show assignInOrder_nil<|I2b z H I h
variable{es:k_ j_}
def IV{t:TG}{u:TGs}(h1:PG X e t)(h2:δl u)(S:wP ((Wq (e::es) X.env).map (·.2)=assign e X.env::(βe 0).map (·.2)) zn):PGs X (e::es) (Rk t u):=by
 intro p s o H n U Q I r h;let(v,V,E,h):=h;subst E;cases r with
 |cons r R=>rw[S];show assignInOrder_cons<|thn (h1 p s o H _ _ _ I r h) λ_ w z0=>E2b z0 λz y x q=>?_;show h2 p w z y _ _ Q x R q
abbrev Rl(K:vj)(n:Nat)(t:TGs):TG:=λv σ H Q=>∃a xs,v=.ref a/\Yk a xs/\xs.l=n/\t xs σ H Q
variable{n:Nat}
def OU{k:Nat}{t:TGs}(c:X.calm=true)(h:δl t)(N:wP ((βe 0).length=n) zn)(S:wP ((βe 0).findIdx? (·.1)=a9) zn):PG X (.Tuple es k pos) (Rl X.K n t):=by intro p s z H v u Q I r w;let(a,j,E,q,l,w):=w;subst E;subst r;let(i,(R),T,Z):=I.tuple q;show assign_Tuple_tuple (I.ok.hd c) T (by simp[N,<-l,R.length]) S λx m=>?_;let y:Yq p z H {s with heap:=x}:=I.kept λb o e=>m b o (wc<|vy e) e;show h p _ z H j _ Q y (d0 R) w
abbrev M1(te:TE)(g:TG):TS:=λD σ H=>te σ H λx H1=>g x σ H1 D.nx
variable{tg:j_}
def OV{g:TG}(E:V_ e te)(G:PG X tg g)(S:wP (swapsWithSole [tg] e pos.line X.env=αQ 0) zn)(W:wP (swappedStores [tg] e X.env=pure a9) zn)(h1:wP ((Wq [tg] X.env).map (·.2)=[assign tg X.env]) zn):PS X (.Assign [tg] e pos) (M1 te g):=by show λp s z H D I h=>wpAny_Assign_stores (thn (γn h) λv u z0=>E2c z0 λx y w r Q=>?_) S W;rw[h1];show thn (G p u z y x v _ w r Q) λ_ t q=>q
variable{pos':Pos}
def IW(t:X.N.Nodup)(hi:X.N[i]?=a8 x)(r:ZP x)(E:V_ e te)(S:wP (Xs e (a8<|.Name x pos') pos.line X.env=αQ 0) zn)(f:wP (X.fn x=true\/A6 0=a8 .local) v4):
  PS X (.Assign [.Name x pos'] e pos) (M1 te<|G7 i):=by
 show λp s o H D I h=>wpAny_Assign_Name (thn (E p s o H _ I h) λv n z0=>E2c z0 λy z w R q=>?_) S;show yA w t hi r R (λm u=>(I2b _ z u q)) f
abbrev OW(c:TT)(tb:TS):TS:=λD σ H=>∃W:Nat->St->Hp->Prop,(∃m,W m σ H)/\∀m σ H,W m σ H->
 c σ H λb H1=>if b=true then ∃N:St->Hp->Prop,(∀σ' H',N σ' H'->∃m',m'<m/\W m' σ' H')/\tb { D with nx:=N,ct:=N,bk:=D.nx} σ H1 else D.nx σ H1
variable{body:k_ ko}
def IX{c:j_}{tb:TS}(P:PassesOwn (c3 X) X.A X.env X.xe)(C:PT X c tc)(hb:εu body tb):PS X (.While c body [] pos) (OW tc tb):=by
 rintro p s T H D I ⟨W,⟨a,V⟩,t⟩;show wpAny_While<|codeAny_whileLoop (λn S=>∃u k,Yq p u k S/\W n u k) ?_ a<|I2b T H I V;show λn Z z5=>E2b z5 λy j d U=>?_;show WG P<|thn (C p Z y j _ d<|t n y j U) λb Y z0=>E1b z0 λi g q=>?_;cases b with
 |true=>
  let(N,(e),q):=q;show WG P<|thn (hb p Y y i _ g q) λf R Q=>?_;cases f with
  |next=>let⟨z,x,r,o⟩:=Q;let⟨M,m,l⟩:=e z x o;show(M,m,z,x,r,l)
  |cont=>let⟨z,x,r,o⟩:=Q;let⟨M,m,l⟩:=e z x o;show(M,m,z,x,r,l)
  |brk=>exact Q
  |ret v=>exact Q
 |false=>exact wpAny_execs_nil<|I2b y i g q
structure It where
 go:Nat->Hp->Prop
 yld:Nat->Hp->V->Hp->Prop
 stop:Nat->Hp->Prop
abbrev CT(X:Cx)(c6:b_ 0)(H:Hp)(b:h_):Prop:=H b=a9/\b≠X.env.locals/\b∉X.fs/\(b∈X.ex\/X.s₀.heap.objs.size<=b)/\(∀x c,A2 0=a8 c->c≠b)/\∀p∈X.pn++c6,p.1≠b
def Inv.fpOk{σ:St}{b:h_}(I:u_ s)(hb:(b7 s)<=b)(h:H' b=a9):CT X c6 H' b:=by
 show I0f h (Io<|wb I.lt hb) (I.nofs hb) (.inr<|vz I.sz hb) (λx c e z=>?_) λp P z=>?_
 ·let(v,q):=βH e;show absurd (wb q.lt (by rw[z];show hb))<|VO _
 ·show absurd (wb (vy (βm P).1) (by rw[z];show hb)) (VO _)
structure Turn(P:j3)(w:j2)(K:vj)(tg:j_)(J:It)(fp:k_ h_)(it:h_)(tn:Nat->jo->Prop):Prop where
 mem:it∈fp
 obj:∀i h,tn i h->∀b∈fp,∃o,h.get? b=some o/\∀v,o.data≠.cell v
 keep:∀i h h',tn i h->(∀b∈fp,∀o,h.get? b=some o->h'.get? b=some o)->tn i h'
 item:∀(X:Cx),X.prog=P->X.w=w->X.K=K->X.calm=true->∀(i:Nat)(c6:b_ 0)(s:g_)(σ:St)(H:Hp)(E:b9 0),Inv X c6 σ H s->(∀b∈fp,CT X c6 H b)->tn i s.heap->J.go i H->
  wpAny (model P w) X.A (pyNext (.ref it)) (λr s1=>∃u,r=some u/\
   wpAny (model P w) X.A (letOwnedTupleGo tg (.ref it) u) (λ_ s2=>∃x H',Inv X c6 σ H' s2/\RelV x u/\J.yld i H x H'/\tn (i+1) s2.heap/\∀b∈fp,H' b=none) E s1) E s
 done:∀(X:Cx),X.prog=P->X.w=w->X.K=K->X.calm=true->∀(i:Nat)(c6:b_ 0)(s:g_)(σ:St)(H:Hp)(E:b9 0),Inv X c6 σ H s->(∀b∈fp,CT X c6 H b)->tn i s.heap->J.stop i H->
  wpAny (model P w) X.A (pyNext (.ref it)) (λr s1=>r=none/\Inv X c6 σ H s1) E s
 self:∀(A:i_)(i:Nat)(s:g_)(Q:b9 0)(E:b9 0),tn i s.heap->Q (.ref it) s->wpAny (model P w) A (pyIter (.ref it)) Q E s
@[reducible]def TI:=St->Hp->(It->Hp->Prop)->Prop
abbrev PIE(X:Cx)(c6:b_ 0)(σ:St)(tg:j_)(R:It->Hp->Prop)(mf:gV)(s2:g_):Prop:=
 ∃(it:h_)(fp:k_ h_)(tn:Nat->jo->Prop)(J:It)(H':Hp),mf=.ref it/\εe s2/\Turn X.prog X.w X.K tg J fp it tn/\tn 0 s2.heap/\(∀b∈fp,CT X c6 H' b)/\R J H'
abbrev PI(X:Cx)(tg iter:j_)(wi:TI):Prop:=
 ∀(c6:b_ 0)(s:g_)(σ:St)(H:Hp)(R:It->Hp->Prop),u_ s->wi σ H R->
  wpAny (c3 X) X.A (eval iter X.env) (λv s1=>wpAny (c3 X) X.A (pyIter v) (PIE X c6 σ tg R) X.xe s1) X.xe s
def G8{n:String}{vs:K_ 0}{Q:εt 0}(O:αf 0=a8 o)(c:o.cls=.type n)(d:o.data=.fields vs)(N:["enumerate","zip","dict_itemiterator","dict_reverseitemiterator","odict_iterator","itertools.zip_longest","itertools.pairwise"].contains n=false)(H:Q () s):X9 (letOwnedTupleGo tg (.ref it) u) Q E s:=by
 cases tg <;> first
  |exact vh H
  | (cases u <;> first
    |exact vh H
    | (show eg (wpAny_load O ?_)
       rw[c,d]
       change X9 (if(["enumerate","zip","dict_itemiterator","dict_reverseitemiterator","odict_iterator","itertools.zip_longest","itertools.pairwise"].contains n&&vs[0]? == a8 _)=true then _ else _) Q E s
       rw[if_neg (by intro h;rw[N]at h;cases h)];show vh H))
abbrev Itl(K:vj)(a:h_):It:=⟨λi H=>∃xs x,Yu a xs/\xs[i]?=a8 x,λi H x H'=>H'=H/\∀xs,Yu a xs->xs[i]?=a8 x,λi H=>∃xs,Yu a xs/\xs.l<=i⟩
abbrev Itt(K:vj)(a:h_):It:=⟨λi H=>∃xs x,Yk a xs/\xs[i]?=a8 x,λi H x H'=>H'=H/\∀xs,Yk a xs->xs[i]?=a8 x,λi H=>∃xs,Yk a xs/\xs.l<=i⟩
abbrev Itr(lo:Int)(n:Nat):It:=⟨λi _=>i<n,λi H x H'=>H'=H/\x=.int (lo+i),λi _=>n<=i⟩
def Bb(a it):βJ tg (Itl K a) [it] it (λi h=>h.IsListIter it a i) where
 mem:=by simp
 obj:=λi h t b B=>by
  let e:b=it:=by simpa using B
  subst e;let(o,(e),c,d):=t;show ZX e λv z=>by rw[d]at z;exists z
 keep:=λi h j t k=>t.at λo e=>k it (by simp) o e
 item:=by
  intro X Z Y g C i n s U H E I f t G;subst Z Y g;let(xs,x,(q),V):=G;let(T,(R),p,J):=I.list q;let(u,(M),D):=R.get V;let((F),y,N,r,m,l):=(f it<|by simp);show wpAny_pyNext_list_item t p.isList (d0 M) λj S A=>?_;let Q:Yq n U H {s with heap:=j}:=I.turned (λb o B e=>(A.2 b B).trans e) F y r m l;let(o,(e),c,d):=id S;show(u,rfl,G8 e c d (by decide)<|I2e x H Q D ⟨rfl,λys L=>by rw[I.list_inj L q];show V⟩ S λb B=>(f b B).1)
 done:=by intro X Z Y g C i n s U H E I f t G;subst Z Y g;let(xs,(q),V):=G;let(T,(R),p,J):=I.list q;let((F),y,N,r,m,l):=(f it<|by simp);let hl:=R.l;show wpAny_pyNext_list_end (I.ok.hd C) t p.isList (by simp;omega) λj O=>⟨rfl,I.turned (λb o B e=>O b o B e) F y r m l⟩
 self:=λ_ _ _ _ _ t h=>wpAny_pyIter_listiter t h
def Ex(a it):βJ tg (Itt K a) [it] it (λi h=>h.IsTupleIter it a i) where
 mem:=by simp
 obj:=λi h t b B=>by
  let e:b=it:=by simpa using B
  subst e;let(o,(e),c,d):=t;show ZX e λv z=>by rw[d]at z;exists z
 keep:=λi h j t k=>t.at λo e=>k it (by simp) o e
 item:=by
  intro X Z Y g C i n s U H E I f t G;subst Z Y g;let(xs,x,(q),V):=G;let(T,(R),p,J):=I.tuple q;let(u,(M),D):=R.get V;let((F),y,N,r,m,l):=(f it<|by simp);show wpAny_pyNext_tuple_item t (p) (d0 M) λj S A=>?_;let Q:Yq n U H {s with heap:=j}:=I.turned (λb o B e=>(A.2 b B).trans e) F y r m l;let(o,(e),c,d):=id S;show(u,rfl,G8 e c d (by decide)<|I2e x H Q D ⟨rfl,λys L=>by rw[I.tuple_inj L q];show V⟩ S λb B=>(f b B).1)
 done:=by intro X Z Y g C i n s U H E I f t G;subst Z Y g;let(xs,(q),V):=G;let(T,(R),p,J):=I.tuple q;let((F),y,N,r,m,l):=(f it<|by simp);let hl:=R.l;show wpAny_pyNext_tuple_end (I.ok.hd C) t (p) (by simp;omega) λj O=>⟨rfl,I.turned (λb o B e=>O b o B e) F y r m l⟩
 self:=λ_ _ _ _ _ t h=>wpAny_pyIter_tupleiter t h
def Ey(it)(lo)(n):βJ tg (Itr lo n) [it] it (λi h=>IsRangeIter h it (lo+(i)*1) ((n)-(i)) 1) where
 mem:=by simp
 obj:=λi h S b B=>by
  let e:b=it:=by simpa using B
  subst e;show(_,S,λv z=>by exists z)
 keep:=λi h q S k=>k it (by simp) _ S
 item:=by
  intro X l j m c i p s d H E I f S g;let((F),y,Y,x,u,r):=(f it<|by simp);show(Walks.range (I.ok.hd c) it lo 1 n).item i s _ _ g S λv q R V T U=>?_;let(t,rfl):=V;let a:Yq p d H {s with heap:=q,toks:=R}:=I.turned (λb o B e=>U b o (d0 B) e) F y x u r;show(_,rfl,G8 T rfl rfl (by decide)<|I2e (.int _) H a ⟨t,?_⟩ ⟨rfl,rfl⟩ T λb B=>(f b B).1);rw[Int.mul_one]
 done:=by intro X l j m c i p s d H E I f S g;let((F),y,Y,x,u,r):=(f it<|by simp);show wpAny_pyNext_range_end (I.ok.hd c) S (by have:n<=i:=g;omega) λq Z=>⟨rfl,I.turned (λb o B e=>Z b o B e) F y x u r⟩
 self:=λ_ _ _ _ _ S h=>wpAny_pyIter_rangeiter S h
def IY{σ:St}{R:It->Hp->Prop}{lo hi:Int}{t u v:Tok}{tk:Nat}(I:u_ s)(h1:-(2 ^ 62)<=lo)(h2:lo<2 ^ 62)(h:-(2 ^ 62)<=hi)(r:hi<2 ^ 62)(q:R (Itr lo (hi-lo).toNat) H):wpAny (c3 X) X.A (pyIter<|.ref<|b7 s) (PIE X c6 σ tg R) E {s with heap:=s.heap.push {cls:=.type "range",data:=.fields #[.int lo t,.int hi u,.int 1 v]},toks:=tk}:=by
 show wpAny_pyIter_range (IsRange.new ..) (small_one h1 h2 h r) ?_;let z:u_ {s with heap:=s.heap.push {cls:=.type "range",data:=.fields #[.int lo t,.int hi u,.int 1 v]},toks:=tk}:=I.kept λb o e=>X4 e;show⟨(s.heap.push {cls:=.type "range",data:=.fields #[.int lo t,.int hi u,.int 1 v]}).objs.size,[(s.heap.push {cls:=.type "range",data:=.fields #[.int lo t,.int hi u,.int 1 v]}).objs.size],_,_,H,rfl,
  z.kept λb o e=>X4 e,Ey _ lo (hi-lo).toNat,?_,λb B=>?_,q⟩
 ·let y:lo+((0:Nat):Int)*1=lo:=by simp
  let x:(((hi-lo).toNat:Nat):Int)-((0:Nat):Int)=Builtin.Range.rangeSize lo hi 1:=by rw[rangeSize_one];split <;> omega
  rw[y,x];show YU rfl
 ·let e:b=(s.heap.push {cls:=.type "range",data:=.fields #[.int lo t,.int hi u,.int 1 v]}).objs.size:=by simpa using B
  subst e;show z.fpOk (vk _)<|z.hok.fresh<|vk _
abbrev Ub(wi:TI)(g:TG)(tb:TS):TS:=λD σ H=>wi σ H λJ H1=>∃W:Nat->Nat->St->Hp->Prop,(∃m,W 0 m σ H1)/\∀i m σ H,W i m σ H->
 (ε2 H/\β4 H)\/(J.go i H/\∃N:St->Hp->Prop,(∀σ' H',N σ' H'->∃m',m'<m/\W (i+1) m' σ' H')/\∀x H',J.yld i H x H'->g x σ H' λσ2 H2=>tb { D with nx:=N,ct:=N,bk:=D.nx} σ2 H2)
abbrev yC(fp:k_ h_)(h:jo):b_ 0:=fp.filterMap λb=>(Zm 0).map λo=>(b,o)
variable{fp:k_ h_}
def mI{h:jo}{b:h_}(hb:b∈fp)(e:Zm 0=a8 o):(b,o)∈yC fp h:=List.mem_filterMap.mpr ⟨b,hb,by rw[e];rfl⟩
def Hm{h:jo}{p:h_×Obj}(P:p∈yC fp h):p.1∈fp/\h.get? p.1=a8 p.2:=by
 let(b,(H),e):=List.mem_filterMap.mp P;cases q:Zm 0 with
 |none=>rw[q]at e;exists e
 |some o=>rw[q]at e;let E:=wu e;subst E;show(H,q)
def Inv.pinned{σ:St}(I:u_ s)(x:∀b∈fp,CT X c6 H b)(O:∀b∈fp,∃o,tx 0=a8 o/\∀v,o.data≠.cell v):Yq (c6++yC fp s.heap) σ H s:=I.pins_of λp P=>(xj.mp P).elim (λz=>βm<|v5 _ z) λz=>by let(h,e):=Hm z;let((f),F,y,_):=x p.1 h;let(o,(E),d):=O p.1 h;rw[e]at E;exists E;show I0e e f F y d
def Inv.unpinned{pl:b_ 0}{σ:St}(I:Yq (c6++pl) σ H s):u_ s:=I.pins_of λp h=>βm<|v5 _<|y6 _ h
variable{iter:j_}
def OX{wi:TI}{g:TG}{tb:TS}(P:PassesOwn (c3 X) X.A X.env X.xe)(d:X.calm=true)(hi:Zw wi)(hg:PG X tg g)(hb:εu body tb)(hs:wP (∀x,Yn x=pure x) kt):PS X (.For tg iter body [] pos) (Ub wi g tb):=by
 show λp s σ H D I h=>wpAny_For (thn (hi p s σ H _ I h) λv s1 h1=>thn h1 λmf s2 h2=>?_) hs;let(it,F,D,J,H2,e,I2,T,K,J,W,(m0,w0),U):=h2;subst e
 -- what stays true of the iterator's objects through the loop
 let S:∀{k:Hp},(∀b∈F,k b=a9)->∀b∈F,CT X p k b:=λhn b hb=>⟨hn b hb,(J b hb).2⟩;show codeAny_forLoop_any (λn s=>∃i q k,Yq p q k s/\D i s.heap/\(∀b∈F,k b=a9)/\W i n q k) ?_ m0<|I3d 0 σ H2 I2 K (λb hb=>(J b hb).1) w0;show λn H dv=>E3d dv λi l Y B Z R w3=>?_;rcases U i n l Y w3 with⟨O,qn⟩|⟨go,N,hN,E⟩
 ·show WG P (thn (T.done X rfl rfl rfl d i p H l Y X.xe B (S R) Z O) λr s4 w0=>?_);let(M,I4):=w0;subst M;show wpAny_execs_nil<|I2b l Y I4 qn
 ·show WG P (thn (T.item X rfl rfl rfl d i p H l Y X.xe B (S R) Z go) λr s4 z2=>E1b z2 λu M h4=>?_);subst M;show WG P<|thn h4 λ_ s5 z1=>E2e z1 λx C I5 r5 y5 j V=>?_;show WG P<|thn (hg _ s5 l C x u _ (I5.pinned (S V)<|T.obj _ _ j) r5<|E x C y5) λ_ s6 z0=>E2b z0 λG H6 I6 q6=>?_;show WG P<|thn (hb _ s6 G H6 _ I6 q6) λf L Q=>?_;let a:∀{z:St}{y:Hp},Yq (p++yC F _) z y L->N z y->∃m,m<n/\∃i q k,Yq p q k L/\D i _/\(∀b∈F,k b=a9)/\W i m q k:=λ{z y} t c=>by let(m',hm,w7):=hN z y c;show(m',hm,i+1,z,y,t.unpinned,T.keep _ _ _ j λb hb o e=>(t.pin _<|v5 _<|v5 _<|mI hb e).1,λb hb=>?_,w7);let(o,(e),d):=T.obj _ _ j b hb;show(t.pin _<|v5 _<|v5 _<|mI hb e).2.1
  cases f with
  |next=>let⟨z,y,t,c⟩:=Q;show a t c
  |cont=>let⟨z,y,t,c⟩:=Q;show a t c
  |brk=>let⟨z,y,t,Q⟩:=Q;show I2b z y t.unpinned Q
  |ret v=>let⟨x7,z,y,t,r7,Q⟩:=Q;show I3c x7 z y t.unpinned r7 Q
@[reducible]def R2:=V->V->Hp->VK->Prop
abbrev OpR(X:Cx)(f:gV->gV->Sem gV)(r:R2):Prop:=
 ∀(c6:b_ 0)(s:g_)(σ:St)(H:Hp)(x y:V)(v u:gV)(Q:VK),u_ s->P2 v->X_ u->ε3 Q->
  wpAny (c3 X) X.A (f v u) (X3 Q) X.xe s
abbrev UnR(X:Cx)(f:gV->Sem gV)(r:V->Hp->VK->Prop):Prop:=
 ∀(c6:b_ 0)(s:g_)(σ:St)(H:Hp)(x:V)(v:gV)(Q:VK),u_ s->P2 v->r x H Q->
  wpAny (c3 X) X.A (f v) (X3 Q) X.xe s
abbrev cF(X:Cx)(f:gV)(r:k_ V->Hp->VK->Prop):Prop:=
 ∀(c6:b_ 0)(s:g_)(σ:St)(H:Hp)(xs:k_ V)(us:YX 0)(Q:VK),u_ s->ZK us->r xs H Q->
  wpAny (c3 X) X.A (call f us) (X3 Q) X.xe s
abbrev Uc(X:Cx)(r:V->Hp->(Bool->Hp->Prop)->Prop):Prop:=
 ∀(c6:b_ 0)(s:g_)(σ:St)(H:Hp)(x:V)(v:gV)(Q:Bool->Hp->Prop),u_ s->P2 v->r x H Q->
  wpAny (c3 X) X.A (truthy v) (εL Q) X.xe s
abbrev tOp(r:R2)(ta tb:TE):TE:=λσ H Q=>ε4 H λx H1=>tb σ H1 λy H2=>r x y H2 Q
abbrev tUn(r:V->Hp->VK->Prop)(ta:TE):TE:=λσ H Q=>ε4 H λx H1=>r x H1 Q
abbrev rI(C:Int->Int->Prop)(g:Int->Int->V):R2:=λx y H Q=>∃i j,x=.int i/\y=.int j/\C i j/\Q (g i j) H
abbrev rI0(g:Int->Int->V):R2:=λx y H Q=>∃i j,x=.int i/\y=.int j/\Q (g i j) H
abbrev rU(g:Int->V):V->Hp->VK->Prop:=λx H Q=>∃i,x=.int i/\Q (g i) H
variable{f:gV->gV->Sem gV}{g:Int->Int->Int}
section
variable{a b c:j_}{tc:TE}
def OY(n:V_ a ta)(hb:V_ b tb){σ:St}{R:V->V->Hp->Prop}(I:u_ s)(h:ε4 H λx q=>tb σ q λy z=>R x y z)(F:∀v u r x y z,c8 z r->P2 v->X_ u->R x y z->wpAny (c3 X) X.A (f v u) Q X.xe r):
  wpAny (c3 X) X.A (eval a X.env) (λv S=>wpAny (c3 X) X.A (eval b X.env) (λu t=>wpAny (c3 X) X.A (f v u) Q X.xe t) X.xe S) X.xe s:=by
 show thn (n c6 s σ H _ I h) λv i w0=>?_;let(x,q,p,k,m):=w0;show thn (hb c6 i σ q _ p m) λu r w0=>?_;let(y,z,o,j,l):=w0;show F v u r x y z o k j l
def Rm{op:Operator}{r:R2}(o:O_ (Vr op) r)(A:V_ a ta)(hb:V_ b tb):V_ (.BinOp a op b pos) (tOp r ta tb):=by show λp s t H Q I h=>wpAny_BinOp<|OY A hb I h λv u S x y z w R Y q=>εv q
def Rn{op:UnaryOp}{r:V->Hp->VK->Prop}(o:UnR X (unaryOp op) r)(A:V_ a ta):V_ (.UnaryOp op a pos) (tUn r ta):=by show λp s z H Q I h=>UnaryOp_<|thn (A p s z H _ I h) λv S z0=>E2c z0 λx y w R q=>o p S z y x v Q w R q
def opI{C:Int->Int->Prop}(r:∀(i j)(t u)(s)(Q)(E),C i j->Q (.int (g i j) s.toks) { s with toks:=s.toks+1}->wpAny (c3 X) X.A (f (.int i t)<|.int j u) Q E s):
  O_ f (rI C λi j=>.int<|g i j):=by
 show λp s o H x y v u Q I R Y z6=>E2d z6 λi j z0 z1 z q=>?_;subst z0;subst z1;let(t,rfl):=R;let(T,rfl):=Y;show δy z<|I2c (.int _) H (YT 0) ⟨_,rfl⟩ q
def Ro(r:∀(i j)(t u)(s)(Q)(E),Q (.int (g i j) s.toks) { s with toks:=s.toks+1}->wpAny (c3 X) X.A (f (.int i t)<|.int j u) Q E s):
  O_ f (rI0 λi j=>.int<|g i j):=by
 rintro p s z H x y v u Q I R Y ⟨i,j,rfl,rfl,q⟩;let(t,rfl):=R;let(T,rfl):=Y;show δy<|I2c (.int _) H (YT 0) ⟨_,rfl⟩ q
def OZ{g:Int->Int->Bool}(r:∀(i j)(t u)(s)(Q)(E),Q (.bool<|g i j) s->wpAny (c3 X) X.A (f (.int i t)<|.int j u) Q E s):
  O_ f (rI0 λi j=>.bl<|g i j):=by
 rintro p s z H x y v u Q I R Y ⟨i,j,rfl,rfl,q⟩;let(t,rfl):=R;let(T,rfl):=Y;show δy<|I2c (.bl _) H I rfl q
abbrev IZ(i j:Int):Prop:=0<j/\j<1073741824
abbrev Hn(i j:Int):Prop:=0<=j/\j<=1000000/\i.natAbs<2 ^ 64
abbrev Ez(i j:Int):Prop:=(-(2 ^ 64)<i/\i<2 ^ 64)\/(-(2 ^ 64)<j/\j<2 ^ 64)
def Ez.ok{i j:Int}(h:Ez i j):IntMulOk i j:=by
 rcases h with⟨H,z⟩|⟨H,z⟩
 ·show .of_left (intBits_le_64 H z)
 ·show .of_right (intBits_le_64 H z)
def P0:O_ (Vr .Add) (rI0 λi j=>.int<|i+j):=Ro λ_ _ _ _ _ _ _ q=>add_int q
def P3:O_ (Vr .Sub) (rI0 λi j=>.int<|i-j):=Ro λ_ _ _ _ _ _ _ q=>sub_int q
def P4:O_ (Vr .Mult) (rI Ez λi j=>.int<|i*j):=opI λ_ _ _ _ _ _ _ h q=>mul_int q h.ok
def M3:O_ (Vr .FloorDiv) (rI IZ λi j=>.int<|i/j):=opI λi j _ _ _ _ _ h q=>by let H:(0)<j:=h.1;let z:=h.2;show floordiv_int ⋯ (by rw[Int.fdiv_eq_ediv_of_nonneg i ⋯];show q) (.inl<|PyProof.noPylong_small ⋯)
def P5:O_ (Vr .Mod) (rI (λ_ j=>0<j) λi j=>.int<|i%j):=opI λi j _ _ _ _ _ h q=>by let H:(0)<j:=h;show mod_int' ⋯ (by rw[Int.fmod_eq_emod_of_nonneg i ⋯];show q)
def P6:O_ (Vr .Pow) (rI Hn λi j=>.int<|i ^ j.toNat):=opI λ_ _ _ _ _ _ _ h q=>pow_int_small h.1 h.2.1 h.2.2 q
def unI{f:gV->Sem gV}{g:Int->Int}
  (r:∀(i)(t)(s)(Q)(E),Q (.int (g i) s.toks) { s with toks:=s.toks+1}->wpAny (c3 X) X.A (f<|.int i t) Q E s):
  UnR X f (rU λi=>.int<|g i):=by
 rintro p s z H x v Q I R ⟨i,rfl,q⟩;let(t,rfl):=R;show r i t s _ _<|I2c (.int<|g i) H (YT 0) ⟨_,rfl⟩ q
def P7:UnR X (unaryOp .USub) (rU λi=>.int<|-i):=unI λ_ _ _ _ _ q=>neg_int q
end
variable{r':R2}{op:CmpOp}{its:YX 0}
section
variable{a b c:j_}{tc:TE}
def yD{σ:St}{Q:VK}{k k':Bool}(I:u_ s)(q:Q (.bl k) H)(e:k=k'):X3 Q (.bool k') s:=by subst e;show I2c (.bl k) H I rfl q
def Rp:O_ (za .Lt) (rI0 λi j=>.bl<|decide (i<j)):=OZ λ_ _ _ _ _ _ _ q=>lt_int q
def Rq:O_ (za .LtE) (rI0 λi j=>.bl<|decide (i<=j)):=OZ λ_ _ _ _ _ _ _ q=>le_int q
def Rr:O_ (za .Gt) (rI0 λi j=>.bl<|decide (j<i)):=OZ λ_ _ _ _ _ _ _ q=>gt_int q
def Ho:O_ (za .Lt) (λx y H Q=>∃i j,x=.str i/\y=.str j/\Q (.bl<|decide (i.cps.toList<j.cps.toList)) H):=by rintro p s z H x y v u Q I r R ⟨i,j,rfl,rfl,q⟩;let(t,rfl):=r;let(T,rfl):=R;show lt_str<|yD I q rfl
def P8:O_ (za .Is) (λx y H Q=>y=.non/\Q (.bl<|decide (x=.non)) H):=by
 rintro p s z H x y v u Q I r R ⟨rfl,q⟩;subst R;refine is_none_gen<|yD I q ?_;cases x <;> first
  |(subst r;rfl)
  |(let⟨t,rfl⟩:=r;rfl)
def M4:O_ (za .IsNot) (λx y H Q=>y=.non/\Q (.bl<|!decide (x=.non)) H):=by
 rintro p s z H x y v u Q I r R ⟨rfl,q⟩;subst R;refine isnot_none_gen<|yD I q ?_;cases x <;> first
  |(subst r;rfl)
  |(let⟨t,rfl⟩:=r;rfl)
def OpR.or{r:R2}(h:O_ f r)(h':O_ f r'):O_ f (λx y H Q=>ε3 Q\/r' x y H Q):=by
 intro p s z H x y v u Q I R Y q;rcases q with q|q
 ·show Zx x y v u Q I R Y q
 ·show h' p s z H x y v u Q I R Y q
def J0(b)(h:wP (op≠.In) xL)(h2:wP (op≠.NotIn) xL):α9 b=false:=by
 let e:(op == CmpOp.In)=false:=by simp_all
 let E:(op == CmpOp.NotIn)=false:=by simp_all
 cases b <;> simp[behindInMarks,e,E]
def M5{r:R2}(o:O_ (za op) r)(A:V_ a ta)(hb:V_ b tb)(m:α9 b=false):V_ (.Compare a [op] [b] pos) (tOp r ta tb):=by show λp s t H Q I h=>wpAny_Compare1 (OY A hb I h λv u S x y z w R Y q=>εv q) m
abbrev M6(K:vj)(x:V)(H:Hp)(k:Bool):Prop:=
 match x with
 |.non=>k=false
 |.bl b=>k=b
 |.int i=>k=(i != 0)
 |.str y=>y.l<=wa/\k=((y.l:Int) != 0)
 |.byt y=>y.size<=wa/\k=((y.size:Int) != 0)
 |.ref p=>(∃xs,Yu p xs/\k=!xs.isEmpty)\/(∃xs,Yk p xs/\k=!xs.isEmpty)\/∃kvs,H p=a8 (.dK kvs)/\k=!kvs.isEmpty
 |_=>False
def EA{κ:Type}{kvs:k_ (κ×V)}{vs:k_ (κ×gV)}(r:βX vs):(!vs.isEmpty)=!kvs.isEmpty:=by cases r <;> rfl
def yE{xs:k_ V}(r:ZK its):(!its.toArray.isEmpty)=!xs.isEmpty:=by cases r <;> simp
def yF:(wa:Nat)<2 ^ 63:=by rw[yt];decide
def J1:Uc X (λx H Q=>∃k,M6 X.K x H k/\Q k H):=by
 rintro c6 s σ H x v Q I rx ⟨k,e,q⟩;let hs:=yt;cases x with
 |non=>subst rx;subst e;show truthy_none ⟨H,I,q⟩
 |bl b=>subst rx;subst e;show Xm ⟨H,I,q⟩
 |int i=>let⟨t,rfl⟩:=rx;let v:=e;subst v;show PySem.P.truthy_int<|I1b H I q
 |str y=>let⟨t,rfl⟩:=rx;obtain⟨hy,v⟩:y.l<=wa/\k=((y.l:Int) != 0):=e;subst v;show PySem.P.truthy_str ⋯ (I1b H (YT 0) q)
 |byt y=>let⟨t,rfl⟩:=rx;obtain⟨hy,v⟩:y.size<=wa/\k=((y.size:Int) != 0):=e;subst v;show PySem.W.truthy_bytes ⋯ (I1b H (YT 0) q)
 |ref p=>
  subst rx;let v:=e;rcases v with⟨xs,hx,v⟩|⟨xs,hx,v⟩|⟨kvs,hx,v⟩
  ·subst v;let(its,r,pl,hz):=I.list hx;let b:=r.l;show wpAny_truthy_list pl.isList (by simp only[v9];omega) (I1b H (YT 0) (by rw[yE r];show q))
  ·subst v;let(its,r,pl,hz):=I.tuple hx;let b:=r.l;show truthy_tuple pl (by simp only[v9];omega) (I1b H (YT 0) (by rw[yE r];show q))
  ·subst v;obtain⟨hz,hS,vs,r,m⟩:kvs.l<=wa/\(p == zx)=false/\∃vs,βX vs/\s.heap.DictOf (γT 0) p vs:=δz hx;let b:=yr r;show wpAny_truthy_dict hS m ⋯ (I1b H (YT 0) (by rw[EA r];show q))
 |_=>exact(e).elim
def J2(A:V_ a ta)(e:∀w,isTrue a X.env w=(do let v <-w;standAt a.pos;holding [v] (truthy v))):
  PT X a (λz H Q=>ta z H λx y=>∃k,M6 X.K x y k/\Q k y):=by
 exact λp s z H Q I h=>isTrue_plain (thn (A p s z H _ I h) λv S z0=>E2c z0 λx u t r q=>J1 p S z u x v Q t r q)<|e _
def EB:O_ (Vr .Add) (λx y H Q=>∃i j,x=.str i/\y=.str j/\i.l+j.l<=wa/\Q (.str<|i++j) H):=by rintro p s w H x y v u Q I r R ⟨i,j,rfl,rfl,z,q⟩;let(t,rfl):=r;let(T,rfl):=R;show add_str (λT k=>(I2c (.str _) H (YT 0) ⟨_,rfl⟩ q)) z
def vals1{x:V}(r:aO [x] us):∃u,us=[u]/\P2 u:=by
 cases r with
 |cons R z=>cases z;show A0 rfl R
def vals2{x y:V}(r:aO [x,y] us):∃u w,us=[u,w]/\P2 u/\X_ w:=by
 cases r with
 |cons R z=>
  cases z with
  |cons v t=>cases t;show αF rfl R v
def Hq(C:X.calm=true):δA (.builtin "max") (λx H Q=>∃i j,x=[.int i,.int j]/\Q (.int<|if j>i then j else i) H):=by
 rintro p s y H x U Q I r ⟨i,j,rfl,q⟩;let(u,w,rfl,(t,rfl),(T,rfl)):=vals2 r;show max_two_ints (I.ok.hd C) λz K k=>I2c _ H (I.kept k) ?_ q;by_cases J:j>i
 ·rw[if_pos J,if_pos J];show(_,rfl)
 ·rw[if_neg J,if_neg J];show(_,rfl)
abbrev Ud(K:vj)(x:V)(H:Hp)(n:Nat):Prop:=
 match x with
 |.str y=>y.l<=wa/\n=y.l
 |.byt y=>y.size<=wa/\n=y.size
 |.ref p=>(∃xs,Yu p xs/\n=xs.l)\/∃xs,Yk p xs/\n=xs.l
 |_=>False
def J3:δA (.builtin "len") (λN H Q=>∃x n,N=[x]/\Ud X.K x H n/\Q (.int n) H):=by
 rintro N s σ H N us Q I r ⟨x,n,rfl,e,q⟩;let(u,rfl,w):=εw 0;let S:=yt;cases x with
 |str y=>let⟨t,rfl⟩:=w;obtain⟨Y,E⟩:y.l<=wa/\n=y.l:=e;subst E;show len_str ⋯ (I2c (.int _) H (YT 0) ⟨_,rfl⟩ q)
 |byt y=>let⟨t,rfl⟩:=w;obtain⟨Y,E⟩:y.size<=wa/\n=y.size:=e;subst E;show PySem.W.len_bytes ⋯ (I2c (.int _) H (YT 0) ⟨_,rfl⟩ q)
 |ref p=>
  subst w;let E:=e;rcases E with⟨N,z,E⟩|⟨N,z,E⟩
  ·subst E;let(i,R,P,Z):=I.list z;let l:=R.l;show δm (by simp only[v9];omega) ⟨.int _,H,YT 0,⟨_,by simp only[v9];rw[l]⟩,q⟩
  ·subst E;let(i,R,P,Z):=I.tuple z;let l:=R.l;show len_tuple P (by simp only[v9];omega) ⟨.int _,H,YT 0,⟨_,by simp only[v9];rw[l]⟩,q⟩
 |_=>exact(e).elim
end
structure EC(h:jo)(x dx C:h_)(mA:d9 0):Prop where
 obj:h.get? x=some (Wm C dx)
 ns:h.Ns1 dx mA
 ne:dx≠x
variable{dx:h_}{mA:d9 0}
open H in
def Hr{h:jo}(n:h.Ns1 dx mA):∃d,h.get? dx=a8 d/\∀m,PySem.W.lookIn m d=a8 (mA m):=by
 let(o,s,p,(O),H,K,_,M):=n;show ZX O λm=>?_;let e:=M m;unfold nsFind findBy at e;rw[<-Array.find?_toList]at e;unfold PySem.W.lookIn;rw[H];dsimp only;split
 ·rename_i y q;rw[q]at e;show αW e
 ·rename_i q;rw[q]at e;let a:s.toList.any (·.refKey)=false:=by rw[List.any_eq_false];intro y Y;let(z,t,(k)):=K y<|Array.mem_toList_iff.mp Y;simp[DictEntry.refKey,k]
  rw[if_neg (by rw[a];show wg)];show αW e
def EC.look{h:jo}{x C:h_}(I:EC h x dx C mA):∃o,Xt h x (Wm C dx) C (a8 o)/\∀n,PySem.W.lookIn n o=a8 (mA n):=
 let ⟨o,ho,hl⟩:=Hr I.ns
 (ZX ⟨I.obj,rfl,rfl,ho⟩ hl)
variable{expr:Bool}{name:Str}{prog:j3}{v:gV}
def get_map{x:h_}{C:h_}(X:δe 0)(I:δf mA)(g:Xu K C name=true)(z:PySem.W.hasDictIn K C=true)(a:yh K (.ref C) name=a8 a9)(V:mA name=a8 v)(H:PySem.W.handedIn v=true)(h:Q v { s with toks:=s.toks+1}):
  l_ (getAttr (.ref x) name expr) Q E s:=by
 let(o,(J),l):=I.look;show PySem.W.get_value X J (γU 0).1 (PySem.W.findObj_own z a rfl<|by rw[l,V]) H h
def J4{x:h_}{C:h_}{f:h_}{pl:Sem Bool}{Q:gV×YX 0->g_->Prop}(X:δe 0)(I:δf mA)(g:Xu K C name=true)(H:yh K (.ref C) name=a8 (a_ f))(t:PySem.W.isFn K (.ref f)=true)(V:mA name=a9)(h:Q (.ref f,[.ref x]) s):
  l_ (getMethod (.ref x) name pl) Q E s:=by
 let(o,(J),l):=I.look;show PySem.W.method_fn X J (γU 0).1 (γU 0).2 H (beq_iff_eq.mp t) (by change(PySem.W.lookIn name o).map _=γL 0;rw[l,V];rfl) h
def M7{x:h_}{C:h_}{ns:S2 0}{Q:εt 0}(X:δe 0)(I:δf mA)(r:yh K (.ref C) "__setattr__" = a8 (a8<|.builtin "object.__setattr__"))(p:PySem.W.plainOver K C=true)(T:PySem.W.takerIn K C name=a8 a9)(t:PySem.W.hasDictIn K C=true)(q:PySem.Within mA ns)(hsz:ns.l<=wa)(h:∀z,EC z x dx C (λy=>if y=name then a8 v else mA y)->VJ dx s.heap z->Q () {s with heap:=z,toks:=s.toks+2}):
  l_ (setAttr (.ref x) name v) Q E s:=by
 let(k,(J),L):=I.look;show PySem.W.set_plain X J r<|PySem.W.osa_open X J p T λb=>?_;let(l,(u),d):=PySem.W.any_some t;show eg<|vh<|eg<|eg<|wpAny_loadPart I.obj<|eg<|PySem.W.Looks.here (PySem.W.looks_clsIn X u) ?_;rw[d];show vh<|eg<|vh<|eg ?_;show wpAny_nsSet1 I.ns λz n H=>?_;let(O,S,e,(o),D,c):=n.count<|PySem.Within.cons name v q;show eg (wpAny_lookBehind o (by rw[D];show pastItsLine_dict<|vz c (by rw[yz];omega)) ?_);show vh<|h _ ⟨(H.2 _<|xy I.ne).trans I.obj,n,I.ne⟩ H
variable{R:c9 Result}{kw:k_ (Str×gV)}{vs:YX 0}
def CU{C:h_}{f:h_}(X:δe 0)(m:PySem.W.makesIn K C=true)(hi:yh K (.ref C) "__init__" = a8 (a_ f))(H:δg (.ref f)=a8 (.type "function"))(h:codeAny (L_ w) (A.under (.builtin "type.__call__" ⟨.ref C::vs,kw⟩)) (.call (.ref f) ⟨.ref (s.heap.objs.size+1)::vs,kw⟩) (PySem.W.InitBack (s.heap.objs.size+1) R)
   {s with heap:=(β5 0).push (Wm C (b7 s))}):
  codeAny (L_ w) A (.call (.ref C) ⟨vs,kw⟩) R s:=by
 show PySem.W.make_core (PySem.W.makes_of X m) (PySem.W.looks_findIn X hi) (λe=>PySem.W.bind_fn X e H) (.inl rfl) h
abbrev lI(f:Str)(v:V):k_ (Str×V)->k_ (Str×V)
 |[]=>[(f,v)]
 |(g,x)::r=>if g=f then(g,v)::r else(g,x)::βZ r
def vZ(f g)(v:V):∀s,(βZ s).lookup g=if g=f then a8 v else s.lookup g
 |[]=>by
  change Xb g [(f,v)]=_
  by_cases h:g=f
  ·let b:=beq_iff_eq.mpr h;simp[Xb,b,αR 0]
  ·let b:=βp 0;simp[Xb,b,ZU 0]
 |(k,x)::r=>by
  rw[show βZ _=(if k=f then _::r else _::βZ r) from rfl]
  by_cases H:k=f
  ·rw[βf 0];by_cases h:g=k
   ·let b:=beq_iff_eq.mpr h;simp[Xb,b,if_pos<|h.trans H]
   ·let b:=βp 0;simp[Xb,b,if_neg (λe:g=f=>h<|e.trans H.symm)]
  ·rw[γM 0];by_cases h:g=k
   ·let b:=beq_iff_eq.mpr h;simp[Xb,b,if_neg (λe:g=f=>H<|h.symm.trans e)]
   ·let b:=βp 0;simp[Xb,b];show vZ f g v r
def uS(f)(v:V):∀s,f∈(βZ s).map (·.1)/\∀g,g∈s.map (·.1)->g∈(βZ s).map (·.1)
 |[]=>⟨by simp[lI],λg h=>by simp at h⟩
 |(k,x)::r=>by
  let(i,I):=uS f v r;rw[show βZ _=(if k=f then _::r else _::βZ r) from rfl]
  by_cases H:k=f
  ·rw[βf 0];subst H;show(by simp,λg h=>by simpa using h)
  ·rw[γM 0];show(?_,λg h=>?_)
   ·show εs i
   ·rcases v8.mp h with e|e
    ·show v8.mpr (.inl e)
    ·show εs (I g e)
def wA(f)(v:V):∀s,(βZ s).length<=s.l+1
 |[]=>by simp[lI]
 |(k,x)::r=>by
  let i:=wA f v r;rw[show βZ _=(if k=f then _::r else _::βZ r) from rfl]
  by_cases h:k=f
  ·rw[αR 0,yz,yz];omega
  ·rw[ZU 0,yz,yz];omega
def oD.some_of{v:V}{o:l7 gV}(r:oD (a8 v) o):∃u,o=a8 u/\Yi u:=by
 cases o with
 |none=>exact(r).elim
 |some u=>exact I1b u rfl r
def oD.none_of{o:l7 gV}(r:oD a9 o):o=a9:=by
 cases o with
 |none=>rfl
 |some u=>exact(r).elim
def Hs{v:V}(r:Yi u):PySem.W.handedIn u=true:=by
 cases v with
 |non=>cases(r);rfl
 |bl b=>cases(r);rfl
 |int i=>let⟨t,e⟩:=(r);subst e;rfl
 |str x=>let⟨t,e⟩:=(r);subst e;rfl
 |byt b=>let⟨t,e⟩:=(r);subst e;rfl
 |flt b=>let⟨t,e⟩:=(r);subst e;rfl
 |ref a=>cases(r);rfl
 |ty n=>cases(r);rfl
section
variable{h:jo}{C:h_}{fs gq:k_ (Str×V)}
def xH(o:X8 h)(e:H a=a8 (.ins C dx fs)):∃m,EC h a dx C m/\(∀f,oD (ZL 0)<|m f)/\PySem.Within m (fs.map (·.1))/\fs.l<=1000/\H dx=a8 (.own a):=by
 let(d,z,N,b,m,n,r,q):=(show Yj _ from o a _ e)
 show I1e m ⟨b,n,N⟩ r q z d
end
structure Cls(K:vj)(C:h_):Prop where
 pg:Xu K C Str.empty=true
 hd:PySem.W.hasDictIn K C=true
 po:PySem.W.plainOver K C=true
 sa:yh K (.ref C) "__setattr__" = some (some (.builtin "object.__setattr__"))
def Cls.get{C:h_}(c:Cls K C)(f):Xu K C f=true:=c.pg
abbrev kI(K:vj)(C:h_)(f:Str):Prop:=yh K (.ref C) f=a8 a9
def kI.taker{C:h_}{f:Str}(n:kI K C f):PySem.W.takerIn K C f=a8 a9:=by
 unfold PySem.W.takerIn;rw[show yh K _ f=a8 a9 from n]
 rfl
structure CV(K:vj)(C:h_)(m:Str)(f:h_):Prop where
 at_:yh K (.ref C) m=some (a_ f)
 fn:PySem.W.isFn K (.ref f)=true
 kp:Vi K (.ref f)=true
variable{b:Bool}{env:Env}
section
variable{σ:St}{C:h_}{fs:k_ (Str×V)}{f:Str}{v:V}
def yG(I:u_ s)(e:H a=a8 (.ins C dx fs))(c:Cls X.K C)(n:kI X.K C f)(l:ZL 0=a8 v)(h:∀u S,u_ S->Yi u->Q u S):wpAny (c3 X) A (getAttr (.ref a) f b) Q E s:=by let(m,(O),r,_,_,_):=xH I.hok e;let(u,(U),R):=(oD.some_of (by rw[<-l];show r f));show get_map I.kIn O (c.get f) c.hd n U (Hs R)<|h u _ (YT 0) R
def yH{m:Str}{g:h_}{pl:Sem Bool}{Q:gV×YX 0->g_->Prop}(I:u_ s)(e:H a=a8 (.ins C dx fs))(c:Cls X.K C)(k:CV X.K C m g)(l:fs.lookup m=a9)
  (h:Q (.ref g,[.ref a]) s):wpAny (c3 X) A (getMethod (.ref a) m pl) Q E s:=by
 let(M,(O),r,_,_,_):=xH I.hok e;show J4 I.kIn O (c.get m) k.at_ k.fn (oD.none_of (by rw[<-l];show r m)) h
def yI{y:V}{Q:εt 0}(I:u_ s)(e:H a=a8 (.ins C dx fs))(c:Cls X.K C)(n:kI X.K C f)(L:fs.l<1000)(R:X_ u)(h:∀S,c8 (Zt<|.ins C dx<|lI f y fs) S->Q () S):wpAny (c3 X) A (setAttr (.ref a) f u) Q E s:=by
 let(m,(O),r,i,_,t):=xH I.hok e;show M7 I.kIn O c.sa c.po n.taker c.hd i (by rw[vn,yt];omega) λl x p=>h _ <|I.write (by rw[e];show Vt) (.inr t) (λb q B z=>(p.2 b B).trans z) (let ⟨o,_,_,e',_⟩:=x.ns;⟨o,e'⟩) <|⟨by rw[aG O.ne];show t,?_,O.ne,x.obj,_,x.ns,λg=>?_,λg G=>?_⟩
 ·have:=wA f y fs;omega
 ·rw[vZ];by_cases q:g=f
  ·rw[if_pos q,if_pos q];show R
  ·rw[if_neg q,if_neg q];show r g
 ·by_cases q:g=f
  ·rw[q];show(uS f y fs).1
  ·show(uS f y fs).2 g (i g λz=>G ?_)
   change(if g=f then a8 u else m g)=a9
   rw[if_neg q];show z
def Inv.made(I:u_ s):c8 (upd (x_ (b7 s)<|.own<|s.heap.objs.size+1) (s.heap.objs.size+1)<|.ins C (b7 s) [])
  {s with heap:=(β5 0).push (Wm C<|b7 s)}:=by
 let E:(β5 0).get? (b7 s)=a8 _:=YU rfl;let x:((β5 0).push<|Wm C<|b7 s).get? (s.heap.objs.size+1)=a8 (Wm C<|b7 s):=by
  have:=vq (β5 0) (o:=Wm C<|b7 s) rfl
  rwa[Wz]at this
 let w:(s.heap.push _).Ns _ (λ_=>a9):=I3d WH (#[]) _ E rfl (λe h=>Y2<|by simp) λ_=>rfl;let z:=I.laid (o:=.own<|s.heap.objs.size+1) (h':=s.heap.push _) (t':=s.toks) (λb u q=>X4 q) (vk _) ⟨_,E⟩;show z.laid (o:=.ins C _ []) (λb u q=>X4 q) (WR<|Wz _ _) ?_;let n:(b7 s)≠(b7 s)+1:=wc<|VY _;show(by rw[aG n,aL],w6 _,n,x,λ_=>a9,(Heap.Ns1.of_empty w).at λo q=>X4 q,λ_=>Vt,λy Y=>absurd rfl Y)
def M8{f:Str}(hb:Wh e f env (eval e env)=eval e env)(h:l_ (eval e env) (λo S=>l_ (getAttr o f true) Q E S) E s):l_ (eval (.Attribute e f pos) env) Q E s:=Attribute_any_ h (by rw[arm_eval_Attribute,hb])
end
abbrev Ue(K:vj)(ta:TE)(f:Str):TE:=λσ H Q=>ε4 H λx H1=>∃a C dx fs v,x=.ref a/\H1 a=a8 (.ins C dx fs)/\Cls K C/\kI K C f/\ZL 0=a8 v/\Q v H1
abbrev Ug(K:vj)(ta tv:TE)(f:Str):TS:=λD σ H=>tv σ H λy H1=>ε4 H1 λx H2=>∃a C dx fs,x=.ref a/\H2 a=a8 (.ins C dx fs)/\Cls K C/\kI K C f/\fs.l<1000/\
 β4 (upd H2 a<|.ins C dx<|lI f y fs)
abbrev Rt(X:Cx)(op:Operator)(rd:V->V->Hp->VK->Prop):Prop:=
 ∀(c6:b_ 0)(s:g_)(σ:St)(H:Hp)(x y:V)(u v:gV)(Q:VK),u_ s->P2 u->X_ v->rd x y H Q->wpAny (c3 X) X.A (inplaceOp op u v) (X3 Q) X.xe s
abbrev M9(K:vj)(ta tv:TE)(rd:V->V->Hp->VK->Prop)(f:Str):TS:=λD σ H=>ε4 H λx H1=>∃a C dx fs v,x=.ref a/\H1 a=a8 (.ins C dx fs)/\Cls K C/\kI K C f/\ZL 0=a8 v/\
 tv σ H1 λy H2=>rd v y H2 λz H3=>∃kg gq,H3 a=a8 (.ins C kg gq)/\gq.l<1000/\β4 (upd H3 a<|.ins C kg<|lI f z gq)
def P9{f:Str}(he:V_ e ta)(hb:Wh e f X.env (A5 0)=A5 0):V_ (.Attribute e f pos) (Ue X.K ta f):=by show λx s σ H Q I h=>M8 hb<|thn (he x s σ H _ I h) λu s1 w0=>?_;let(x,z,y,rx,a,C,dx,fs,v,ex,ea,c,n,l,q):=w0;subst ex;obtain rfl:u=yg a:=rx;show yG y ea c n l λu' s2 w ru=>I2c v z w ru q
variable{tv:TE}{value:j_}
def P'{o:j_}{f:Str}(ha:V_ o ta)(hv:V_ value tv)(hs:Xs value (a8<|.Attribute o f pos') pos.line X.env=αQ 0):PS X (.Assign [.Attribute o f pos'] value pos) (Ug X.K ta tv f):=by show λx s σ H D I h=>plainObj_wpAny_Assign_Attribute (thn (hv x s σ H _ I h) λu s1 z0=>E2c z0 λy z w ry q=>thn (ha x s1 σ z _ w q) λov s2 w0=>?_) hs;let(x,r,v,rx,a,C,dx,fs,ex,ea,c,n,l,q2):=w0;subst ex;obtain rfl:ov=yg a:=rx;show yI v ea c n l ry λs3 t=>I2b σ _ t q2
variable{dw:Pos}
def Ht{o:j_}{f:Str}{op:Operator}{rd:V->V->Hp->VK->Prop}(ha:V_ o ta)(hv:V_ value tv)(z:Rt X op rd):PS X (.AugAssign (.Attribute o f dw) op value pos) (M9 X.K ta tv rd f):=by show λx s σ H D I h=>wpAny_AugAssign_AttributeAny<|thn (ha x s σ H _ I h) λov s1 w0=>?_;let(x,w,r,rx,a,C,dx,fs,v,ex,ea,c,n,l,q):=w0;subst ex;obtain rfl:ov=yg a:=rx;show yG r ea c n l λu s2 p ru=>thn (hv x s2 σ w _ p q) λw3 s3 z0=>E2c z0 λy t m ry q3=>thn (z x s3 σ t v y u w3 _ m ru ry q3) λw4 s4 w0=>?_;let(z,j,k,rz,kg,gq,D,l',q4):=w0;show yI k D c n l' rz λs5 i=>I2b σ _ i q4
abbrev Uh:V->V->Hp->VK->Prop:=λx y H Q=>∃i j,x=.int i/\y=.int j/\Q (.int<|i+j) H
def Pa:Rt X .Add Uh:=by rintro p s z H x y u v Q I r R ⟨i,j,rfl,rfl,q⟩;let(t,rfl):=(r);let(T,rfl):=(R);show PyProof.Rows.iadd_int<|I2c (.int _) H (YT 0) ⟨_,rfl⟩ q
section
variable{σ:St}{c:gV}
inductive uT(K:vj)(H:Hp):V->Value->Prop where
 |non:uT K H .non (.type "NoneType")
 |bl (x:Bool):uT K H (.bl x) (.type "bool")
 |int (i:Int):uT K H (.int i) (.type "int")
 |str (x:Str):uT K H (.str x) (.type "str")
 |flt (x:UInt64):uT K H (.flt x) (.type "float")
 |lst {a:Addr} {xs:k_ V} (e:H a=some (.lst xs)):uT K H (.ref a) (.type "list")
 |frz {a:Addr} {o:Obj} {xs:k_ V} (e:H a=some (.frz o (.lst xs))):uT K H (.ref a) (.type "list")
 |tup {a:Addr} {xs:k_ V} (e:H a=some (.tup xs)):uT K H (.ref a) (.type "tuple")
 |dK {a:Addr} {kvs:k_ (Key×V)} (e:H a=some (.dK kvs)):uT K H (.ref a) (.type "dict")
 |dT {a:Addr} {kvs:k_ (k_ Key×V)} (e:H a=some (.dT kvs)):uT K H (.ref a) (.type "dict")
 | ins {a C dx:Addr} {fs:k_ (Str×V)} (e:H a=some (.ins C dx fs)) (cl:Cls K C) (ha:yh K (.ref C) "__class__" = some (some (.builtin "object.__class__")))
   (hn:PySem.W.specialIn K (.builtin "object.__class__") "__get__" = some (some (.builtin "getset_descriptor.__get__"))) (htk:PySem.W.takesIn K (.builtin "object.__class__")=some true)
   (hm:PySem.W.mroIn K C (.type "object")=some true):uT K H (.ref a) (.ref C)
def Hu{x:V}{t:gV}(I:u_ s)(r:P2 u)(Y:uT X.K H x t)(e:Vo X.K t c=a8 b)(h:∀T,Q (.bool b) { s with toks:=T}):
  wpAny (c3 X) A (call (.builtin "isinstance") [u,c]) Q E s:=by
 cases Y with
 |non=>cases(r);show zc PySem.W.kitx_none I.kIn Vt e (λz=>nomatch z) h
 |bl y=>cases(r);show zc PySem.W.kitx_bool I.kIn Vt e (λz=>nomatch z) h
 |int i=>let⟨t,q⟩:=(r);subst q;show zc PySem.W.kitx_int I.kIn Vt e (λz=>nomatch z) h
 |str y=>let⟨t,q⟩:=(r);subst q;show zc PySem.W.kitx_str I.kIn Vt e (λz=>nomatch z) h
 |flt y=>let⟨t,q⟩:=(r);subst q;show zc PySem.W.kitx_float I.kIn Vt e (λz=>nomatch z) h
 | @lst a j v=>
  cases(show u=yg a from r)
  let(_,_,n,_,m):=(show αw a _ from I.hok a _ v)
  show αs ⟨_,m,rfl⟩ e (λz=>nomatch z) h
 | @frz a B j v=>
  cases(r)
  let(_,_,_,n,_,m):=(show αw a (.frz B _) from βq v)
  show αs ⟨_,m,rfl⟩ e (λz=>nomatch z) h
 | @tup a j v=>
  cases(show u=yg a from r)
  let(_,_,_,p):=(show αw a _ from I.hok a _ v)
  let(o,(m),l,_):=p;show δB ⟨o,m,l⟩ e (λz=>nomatch z) h
 | @dK a S v=>
  cases(show u=yg a from r)
  let(_,_,U,_,p):=(show αw a _ from I.hok a _ v)
  let(o,g,P,(m),l,_):=p;show εi ⟨o,m,l.1⟩ e (λz=>nomatch z) h
 | @dT a S v=>
  cases(show u=yg a from r)
  let(_,_,j,_,o,g,P,m,l,_):=(show αw a _ from I.hok a _ v)
  show εi ⟨o,m,l.1⟩ e (λz=>nomatch z) h
 | @ins a C d F v L f N k M=>
  cases(r)
  let(Z,O,_):=xH I.hok v;let(D,J,_):=O.look;show zc (PySem.W.kitx_own (L.get _) L.hd f N k M) I.kIn J e (λz=>nomatch z) h
end
structure eD(k:Nat)(A:i_):Prop where
 hd:A.handled=none
 dp:A.depth+3*k+5<recursionLimit
 un:A.units+16*k+200<cLine
 gd:A.guards=some []
def eD.mono{k:Nat}(r:eD k A)(h:j<=k):eD j A:=⟨r.hd,by have:=r.dp;omega,by have:=r.un;omega,r.gd⟩
def eD.deeper{k:Nat}(r:eD (k+1) A)(env):eD k (A.deeper env):=⟨r.hd,by have:=r.dp;change A.depth+1+3*k+5<_;omega,by have:=r.un;change A.units+3+16*k+200<_;omega,r.gd⟩
def eD.in1{k:Nat}(r:eD (k+1) A):eD k A.in1:=⟨r.hd,by have:=r.dp;change A.depth+3*k+5<_;omega,by have:=r.un;change A.units+1+16*k+200<_;omega,r.gd⟩
def ED{C:h_}:(A.under<|.builtin "type.__call__" ⟨.ref C::us,kw⟩).depth=A.depth+1:=by first|rfl|simp
def EE{C:h_}:(A.under<|.builtin "type.__call__" ⟨.ref C::us,kw⟩).units=A.units+1:=by first|rfl|simp
def eD.make{k:Nat}(r:eD (k+1) A)(C)(us)(w):eD k (A.under<|.builtin "type.__call__" ⟨.ref C::us,w⟩):=⟨r.hd,by have:=r.dp;rw[ED];omega,by have:=r.un;rw[EE];omega,by have:=r.gd;simp[Around.under,Code.guards,Code.isGuard,guardIds,pushGuards,this]⟩
def eD.depth{k:Nat}(r:eD k A):A.depth<recursionLimit:=by have:=r.dp;omega
def eD.units{k:Nat}(r:eD k A):A.units+64<cLine:=by have:=r.un;omega
abbrev Mb:TA:=λ_ H Q=>Q [] H
abbrev Ob(ta:TE)(tr:TA):TA:=λσ H Q=>ε4 H λx H1=>tr σ H1 λxs H2=>Q (x::xs) H2
section
variable{t:TA}
def uU:PA X [] Mb:=λ_ _ _ _ H Q I h=>Calls.spliced_nil<|I2c [] H I .nil h
def mJ(a:V_ e te)(R:ε5 t)(S:wP (wj (e::es) X.env=(false,A5 0)::X2 0) zn):PA X (e::es) (Ob te t):=by
 intro pos p s z H Q I h;rw[S]
 change n7 (spliced ((false,A5 0)::H_ _)) _ _ s
 show Calls.spliced_cons<|thn (a p s z H _ I h) λu l z1=>E2c z1 λx y v n q=>?_;show thn (R pos p l z y _ v q) λU j z0=>E2c z0 λk w r m o=>I2c (x::k) w r (.cons n m) o
abbrev Ui(t:TA):TE:=λσ H Q=>t σ H λxs H1=>xs.l<=wa/\∀p,H1 p=a9->Q (.ref p) (upd H1 p<|.tup xs)
abbrev Uj(t:TA):TE:=λσ H Q=>t σ H λxs H1=>xs.l<=wa/\∀p,H1 p=a9->Q (.ref p) (upd H1 p<|.lst xs)
def Pb{x1}(h:ε5 t):V_ (.Tuple es x1 pos) (Ui t):=by show λp s o H Q I w=>wpAny_Tuple_spliced (thn (h pos p s o H _ I w) λU S z0=>E2d z0 λv x y r z q=>⟨by rw[<-r.length];show z,?_⟩);show I2c (.ref _) (upd x _ _) (y.laid (λb u e=>X4 e) (vk _) ?_) rfl<|q _<|y.hok.fresh<|vk _;show(z,U,r,(I1d _ (YU rfl) rfl ⟨_,rfl⟩ rfl))
def Pc(h:ε5 t):V_ (.List es pos) (Uj t):=by show λp s o H Q I w=>wpAny_List_spliced (thn (h pos p s o H _ I w) λU S z0=>E2d z0 λv x y r z q=>⟨by rw[<-r.length];show z,?_⟩);show I2c (.ref _) (upd x _ _) (y.laid (λb u e=>X4 e) (vk _) ?_) rfl<|q _<|y.hok.fresh<|vk _;show(z,U,0,r,YU rfl)
end
@[reducible]def Sp:=k_ V->Hp->VK->XK->Prop
@[reducible]def CXT:=k_ Env->Hp->g_->XK->b9 0
structure yJ(P:j3)(w:j2)(K:vj)(mg:d9 0)(base:jo)(A:i_)(outer:k_ Env)(s:g_)(H:Hp):Prop where
 frames:A.frames=some outer
 mod:Mod K mg base
 bs:∀b o,base.get? b=some o->s.heap.get? b=some o/\H b=none
 bsz:base.objs.size<=(b7 s)
 funs:s.heap.FunFrames base outer
 frf:∀b∈frs outer,H b=none
 hok:HOk P w H s.heap
 bare:AllBare s.gens
abbrev CE(outer:k_ Env)(P:j3)(w:j2)(H:Hp)(s:g_)(Q:VK)(u:gV)(s':g_):Prop:=
 ∃v H',s'.os=s.os/\αr 0/\Un (frs outer) [] H H' s.heap s'.heap/\HOk P w H' s'.heap/\Yi u/\Q v H'
abbrev CR(CX:CXT)(outer:k_ Env)(P:j3)(w:j2)(H:Hp)(s:g_)(Q:VK)(E:XK)(r:Result)(s':g_):Prop:=
 match r with
 |.ok (.ret u)=>CE outer P w H s Q u s'
 |.ok _=>False
 |.error e=>εx e s'
structure cX(P:j3)(w:j2)(K:vj)(mg:d9 0)(base:jo)(CX:CXT)(k:Nat)(f:h_)(fd:zy)(ps:k_ Str)(sp:Sp):Prop where
 len:∀vs H Q E,sp vs H Q E->vs.l=ps.l
 run:∀(A:i_)(outer:k_ Env)(s:g_)(H:Hp)(args:Args)(us:k_ gV)(vs:k_ V)(Q:VK)(E:XK),eD k A->yJ P w K mg base A outer s H->BindsTo s fd args (ps.zip us)->aO vs us->sp vs H Q E->
  codeAny (model P w) A (.call (.ref f) args) (CR CX outer P w H s Q E) s
variable{CX:CXT}{base:jo}{fd:zy}{mg:d9 0}{ps:S2 0}{sp:Sp}
def cX.imp{k:Nat}{f:h_}{pb:Sp}(F:XW CX k f fd ps sp)(h:∀v H Q E,pb v H Q E->sp v H Q E):XW CX k f fd ps pb:=⟨λv H Q E q=>F.len v H Q E<|h _ _ _ _ q,λA o s H a u v Q E r e b V S=>F.run A o s H a u v Q E r e b V<|h _ _ _ _ S⟩
variable{outer:k_ Env}
def yJ.make(e:ζF H)(C)(us)(k):
  αc (A.under<|.builtin "type.__call__" ⟨.ref C::us,k⟩) outer s H:=⟨by first|exact e.frames|(simpa using e.frames),e.mod,e.bs,e.bsz,e.funs,e.frf,e.hok,e.bare⟩
def yJ.in1(e:ζF H):
  αc A.in1 outer s H:=⟨e.frames,e.mod,e.bs,e.bsz,e.funs,e.frf,e.hok,e.bare⟩
section
variable{σ:St}
def Inv.env0(I:u_ s):δh X.A X.stack s H:=⟨I.ok.frames,I.ok.mod,I.bs,vz I.ok.bsz I.sz,I.stack,I.stkFree,I.hok,I.bare⟩
def Inv.after{Q:VK}(I:u_ s)(h:CE X.stack X.prog X.w H s Q u s'):X3 Q u s':=by let(v,y,(S),a,n,o,r,q):=h;let(x,g,d,t,O):=s';obtain rfl:O=s.os:=S;show I2c v y (I.call n o a<|λb z=>YJ<|by simp) r q
end
abbrev J5(sp:Sp)(br:k_ V)(E:XK)(t:TA):TE:=λσ H Q=>t σ H λvs H1=>sp (vs++br) H1 Q E
abbrev Oc(C:h_)(sp:Sp)(br:k_ V)(E:XK)(t:TA):TE:=λσ H Q=>t σ H λvs H1=>∀x dx,H1 x=a9->H1 dx=a9->dx≠x->
 sp (.ref x::(vs++br)) (upd (upd H1 dx<|.own x) x<|.ins C dx []) (λv H2=>v=.non/\Q (.ref x) H2) E
abbrev Binds(K:vj)(fd:zy)(ps:S2 0)(ds:YX 0):Prop:=
 ∀(s:g_)(us:YX 0),δe 0->(us++ds).length=ps.l->βr ⟨us,[]⟩ (ps.zip<|us++ds)
def Binds.all(h:∀u,u.l=ps.l->bindArgs fd ⟨u,[]⟩=pure (ps.zip u)):Binds K fd ps []:=λs u _ l=>by rw[Vh]at l⊢;show .of_eq<|h u l
abbrev rJ(CX:CXT)(X:Cx)(E:XK):Prop:=∀(c6:b_ 0)(σ:St)(H:Hp)(s:g_)(e:gV)(s':g_),u_ s->CX X.stack H s E e s'->X.xe e s'
section
variable{k:Nat}{f C:h_}{br:k_ V}{ds:YX 0}{E:XK}{m:Str}{p:Pos}{o:j_}{t:TA}
def BZ{σ:St}{Q:VK}{vs:k_ V}(F:ZO 0)(z:eD k X.A)(hb:Y3 ds)(d:aO br ds)(x:ε6 E)(I:u_ s)(r:β3 0)(h:sp (vs++br) H Q E):wpAny (c3 X) X.A (call (.ref f) us) (X3 Q) X.xe s:=by
 let R:aO _ _:=r.append d;show wpAny_call (XA (F.run X.A _ s H ⟨us,[]⟩ _ _ Q E z I.env0 (hb s us I.kIn (by rw[<-R.length];show F.len _ _ _ _ h)) R h) λr S q=>?_);cases r with
 |error e=>exact x c6 σ H s e S I q
 |ok l=>
  cases l with
  |ret u=>exact I.after q
  |next=>exact zb q
  |brk=>exact zb q
  |cont=>exact zb q
def Mc(F:ZO 0)(R:eD k X.A)(g:Zu x)(M:X.mg x=a_ f)(v:Vi X.K (.ref f)=true)(hb:Y3 ds)(D:aO br ds)(u:ε6 E)
  (a:PA X (e::es) t) (d:wP ((x == ("__debug__" : Str))=false) xL) (y:wP (wj (e::es) X.env=(false,A5 0)::X2 0) zn) (l:wP ((H_<|wj es X.env).any (·.1)=false) zn):
  V_ (.Call (.Name x p) (e::es) [] pos) (J5 sp br E t):=by
 show λi s n H Q I h=>zu<|gF I g M ?_ d;show δC v (thn (γV h) λU S z0=>E2c z0 λV j z r q=>⟨z.kIn,?_⟩) y l;show BZ F R hb D u z r q
def J6(F:ZO 0)(r:eD k X.A)(g:Zu x)(M:X.mg x=a_ f)(z:Vi X.K (.ref f)=true)(hb:Y3 ds)(D:aO br ds)(y:ε6 E)
  (d:wP ((x == ("__debug__" : Str))=false) xL):V_ (.Call (.Name x p) [] [] pos) (J5 sp br E Mb):=by
 show λi s v H Q I h=>zu<|gF I g M ?_ d;show εy z<|BZ (us:=[]) F r hb D y I .nil h
structure Mk(K:vj)(C f:h_):Prop where
 makes:PySem.W.makesIn K C=true
 init:yh K (.ref C) "__init__" = some (a_ f)
 fn:PySem.W.isFn K (.ref f)=true
 kp:Vi K (.ref C)=true
def CW{σ:St}{Q:VK}{vs:k_ V}(M:Mk X.K C f)(F:ZO 0)(c:eD (k+1) X.A)(hb:Y3 ds)(D:aO br ds)(b:ε6 E)(I:u_ s)(r:β3 0)(h:∀x d,H x=a9->H d=a9->d≠x->sp (.ref x::(vs++br)) (upd (x_ d<|.own x) x<|.ins C d []) (λv l=>v=.non/\Q (.ref x) l) E):
  wpAny (c3 X) X.A (call (.ref C) us) (X3 Q) X.xe s:=by
 let y:=h (s.heap.objs.size+1) _ (I.hok.fresh<|XH _) (I.hok.fresh<|vk _)<|wc<|VY _;let z:=Inv.made (C:=C) I;let R:aO (V.ref (s.heap.objs.size+1)::(vs++br)) (yg _::(us++ds)):=.cons rfl<|r.append D;let g:(yg (s.heap.objs.size+1)::us++ds).length=ps.l:=by let e:=R.l;rw[F.len _ _ _ _ y]at e;show e.symm
 show wpAny_call (CU I.kIn M.makes M.init (beq_iff_eq.mp M.fn) (XA (F.run _ _ _ _ ⟨yg _::us,[]⟩ (yg _::(us++ds)) _ _ E (c.make C us [])
  (z.env0.make C us []) (hb _ (yg _::us) z.kIn g) R y) λr S q=>?_))
 cases r with
 |error e=>exact b c6 σ _ _ e S z q
 |ok L=>
  cases L with
  |ret u=>show E2d (z.after q) λv n j Z i a=>?_;subst i;show(Z,(I2c (V.ref _) n j rfl a))
  |next=>exact zb q
  |brk=>exact zb q
  |cont=>exact zb q
def Md(M:Mk X.K C f)(F:ZO 0)(R:eD (k+1) X.A)(g:Zu x)(v:X.mg x=a_ C)(hb:Y3 ds)(D:aO br ds)(u:ε6 E)
  (a:PA X (e::es) t) (d:wP ((x == ("__debug__" : Str))=false) xL) (y:wP (wj (e::es) X.env=(false,A5 0)::X2 0) zn) (l:wP ((H_<|wj es X.env).any (·.1)=false) zn):
  V_ (.Call (.Name x p) (e::es) [] pos) (Oc C sp br E t):=by
 show λi s n H Q I h=>zu<|gF I g v ?_ d;show δC M.kp (thn (γV h) λU S z0=>E2c z0 λV j z r q=>⟨z.kIn,?_⟩) y l;show CW M F R hb D u z r q
def J7(M:Mk X.K C f)(F:ZO 0)(r:eD (k+1) X.A)(g:Zu x)(z:X.mg x=a_ C)(hb:Y3 ds)(D:aO br ds)(y:ε6 E)
  (d:wP ((x == ("__debug__" : Str))=false) xL):V_ (.Call (.Name x p) [] [] pos) (Oc C sp br E Mb):=by
 show λi s v H Q I h=>zu<|gF I g z ?_ d;show εy M.kp<|CW (us:=[]) M F r hb D y I .nil h
end
structure mK(N P:k_ Str)(sc:Scope):Prop where
 kind:sc.kind=.function
 co:sc.isCoroutine=false
 gen:sc.isGenerator=false
 nd:N.Nodup
 pre:N.take P.l=P
 par:∀x∈P,sc.names.lookup x=some .local\/sc.names.lookup x=some .cell
 nofree:∀y∈sc.names,y.2≠.free
def Bc{kindOf:Str->l7 NameKind}{x:Str}:∀{binds:k_ (Str×gV)}{m:d9 0},(∀v,(x,v)∉binds)->γ8 binds m x=m x
 |[],_,_=>rfl
 |(n,v)::r,m,h=>by
  unfold bindL;rw[Bc λw hw=>h w<|vr _ hw];split
  ·have:x≠n:=by rintro rfl;show h v vo
   simp[this]
  ·rfl
def Bd{kindOf:Str->l7 NameKind}{x:Str}:∀{binds:k_ (Str×gV)}{m:d9 0},(∀v,(x,v)∉binds)->γ9 binds m x=m x
 |[],_,_=>rfl
 |(n,v)::r,m,h=>by
  unfold bindC;rw[Bd λw hw=>h w<|vr _ hw];split
  ·rfl
  ·have:x≠n:=by rintro rfl;show h v vo
   simp[this]
def Be{kindOf:Str->l7 NameKind}{x:Str}{v:gV}:∀{P:S2 0}{vs:YX 0}{i:Nat}{m:d9 0},P.Nodup->P[i]?=a8 x->vs[i]?=a8 v->kindOf x=a8 .local->
  γ8 (P.zip vs) m x=a8 v
 |[],_,_,_,_,h,_,_=>by simp at h
 |_::_,[],_,_,_,_,h,_=>by simp at h
 |p::P,w::vs,0,m,n,H,z,k=>by
  simp at H z;subst H;subst z
  change γ8 ((p,w)::P.zip vs) m p=_
  unfold bindL;rw[Bc λv V=>(Vp.mp n).1 (List.of_mem_zip V).1,if_pos k];simp
 |p::P,w::vs,i+1,m,n,H,z,k=>by
  change γ8 ((p,w)::P.zip vs) m x=_
  show Be (Vp.mp n).2 (d0 H) (d0 z) k
def Bf{kindOf:Str->l7 NameKind}{x:Str}{v:gV}:∀{P:S2 0}{vs:YX 0}{i:Nat}{m:d9 0},P.Nodup->P[i]?=a8 x->vs[i]?=a8 v->kindOf x≠a8 .local->
  γ9 (P.zip vs) m x=a8 v
 |[],_,_,_,_,h,_,_=>by simp at h
 |_::_,[],_,_,_,_,h,_=>by simp at h
 |p::P,w::vs,0,m,n,H,z,k=>by
  simp at H z;subst H;subst z
  change γ9 ((p,w)::P.zip vs) m p=_
  unfold bindC;rw[Bd λv V=>(Vp.mp n).1 (List.of_mem_zip V).1,if_neg k];simp
 |p::P,w::vs,i+1,m,n,H,z,k=>by
  change γ9 ((p,w)::P.zip vs) m x=_
  show Bf (Vp.mp n).2 (d0 H) (d0 z) k
abbrev start(N:S2 0)(vs:k_ V):St:=vs.map a8++Vj (N.l-vs.l) a9
abbrev mL(CX:CXT)(P:j3)(w:j2)(K:vj)(mg:d9 0)(base:jo)(N:S2 0)(qual:Str)(scope:Scope)(f:h_)(cd:gV)(A:i_)(outer:k_ Env)(s:g_)(H:Hp)(E:XK):Cx where
 prog:=P
 w:=w
 K:=K
 mg:=mg
 base:=base
 A:=A.deeper<|envOfC qual scope (b7 s) f cd
 N:=N
 s₀:=s
 H₀:=H
 env:=Zi (b7 s) f cd
 outer:=outer
 stack:=Zi (b7 s) f cd::outer
 ex:=[]
 calm:=true
 fn:=λ_=>true
 pn:=[]
 xe:=λe s'=>wpAny (model P w) (A.deeper<|envOfC qual scope (b7 s) f cd) (leaving (Zi (b7 s) f cd) e) (λ_ iq=>εx e iq) (λe' iq=>εx e' iq) s'
variable{sc:Scope}
def CY(h:P1 0=a8 .cell):∃c,(zk n sc.names []).lookup x=a8 c:=by show zd.mp<|PySem.W.cellsFrom_some _ n []<|.inl h
variable{cd:gV}{qual:Str}{s1:g_}{scope:Scope}
def Hv{f:h_}{E:XK}{vs:k_ V}(S:ε7 scope)(D:A.handled=a9)(o:ζF H)(X:vs.l=ps.l)(r:β3 0)(x:InCallC s (b7 s) (bindL (Zi (b7 s) f cd).kindOf (ps.zip us) λ_=>a9) (zk (s.heap.objs.size+1) scope.names []) (bindC (Zi (b7 s) f cd).kindOf (ps.zip us) λ_=>a9) s1):
  Inv (XS cd A outer s H E) [] (start N vs) H s1:=by
 let L:ps.l<=N.l:=by have:=βS S.pre;rw[zm]at this;omega
 let(l,T,(z0),j):=x.done;subst z0;let n:∀b,b∉(XS cd A outer s H E).ex:=λb z=>absurd (show b∈([]:k_ h_) from z) (by simp)
 show⟨⟨o.mod,S.kind,rfl,rfl,vk _,λy z c l t=>?_,λy Y=>?_,λy c _ h=>?_,λ_=>D,Around.frames_deeper o.frames,.inr ⟨rfl,rfl⟩,λb z=>YJ (n b),o.bs,o.bsz,λb _ _=>n b,λb z=>YJ (n b),o.funs,o.frf⟩,
  rfl,o.bare,Un.kept j,(A0 x.toInCall.ns λi y v l t Z=>?_),λy c h=>⟨_,x.cell y c h⟩,o.hok.fresh (vk _),λy c h=>?_,λp m=>absurd (show p∈([]:k_ _) from m) (by simp),o.hok.kept j,?_⟩
 ·show name_of_addr x.apart (WT l) (WT t)
 ·rcases Y with Y|Y
  ·show CY Y
  ·show absurd rfl (S.nofree _<|WT Y)
 ·show yw (x.above y c<|WT h)
 ·let I:i<vs.l:=by
   unfold start at t;by_cases I:i<vs.l
   ·show I
   ·rw[zi<|d0 I]at t;rw[List.getElem?_replicate]at t;split at t <;> cases t
  let g:vs[i]?=a8 v:=by
   unfold start at t;rw[ya<|d0 I,wm]at t;cases e:vs[i]? with
   |none=>rw[e]at t;exists t
   |some a=>rw[e]at t;cases t;rfl
  let(u,(U),R):=r.get g;let m:ps[i]?=a8 y:=by rw[<-S.pre,List.getElem?_take_of_lt ⋯];show l
  let d:ps.Nodup:=by rw[<-S.pre];show S.nd.sublist<|List.take_sublist _ _
  show I1b u R ?_;rcases S.par y (xw m) with k|k
  ·show .inl ⟨k,Be d m U k⟩
  ·let(c,e):=CY k;show .inr ⟨.inl k,c,e,?_⟩;let q:=x.cell y c e;rw[Bf d m U (by change scope.names.lookup y≠_;rw[k];decide)]at q;show q
 ·show o.hok.fresh (yw<|x.above y c<|WT h)
 ·unfold start
  change _=N.l
  rw[ye,vn,List.length_replicate];omega
variable{an:l7 h_}{cdv ct doc pm:gV}{osl:d8 0}{params:Arguments}
def Od{k:Nat}{f:h_}{dV kV oc:gV}{od:l7 h_}(lk:K.lookup f=a8 ⟨oc,od,.func (αq ct),osl⟩)(c:XN K cdv qual=true)(S:ε7 scope)(L:∀m H Q E,sp m H Q E->m.l=ps.l)(h:∀(A)(O)(s)(H)(m)(Q)(E),eD k (A.deeper (Zi (b7 s) f cdv))->sp m H Q E->
   ∃t,PSs (εK E) body t/\t { nx:=λ_ p=>Q .non p,rt:=Q} (start N m) H):
  XW CX (k+1) f (αq ct) ps sp:=by
 show(L,λA O s H G us m Q E R j B r g=>?_);let X:K.In _:=j.mod.kin.keeps λb o e=>(j.bs b o e).1;let M:=j.mod.nolimit.keeps λb o e=>(j.bs b o e).1;let i:∀y∈ps.zip us,scope.names.lookup y.1=a8 .local\/(scope.names.lookup y.1=a8 .cell/\((zk (s.heap.objs.size+1) _ []).lookup y.1).isSome=true):=λ⟨n,v⟩ hy=>by
  rcases S.par n (List.of_mem_zip hy).1 with q|q
  ·show .inl q
  ·show .inr ⟨q,PySem.W.cellsFrom_some _ _ _<|.inl q⟩
 show codeAny_call_function R.depth (βg lk) rfl S.co S.gen rfl (PySem.W.codeRec_of X c)<|B _ _ _ _ ?_;show wpAny_newFunctionEnv_cells S.kind i λY T Z x=>?_;subst T;show(M.keeps x.toInCall.keep,codeAny_func ?_);let(t,(C),D):=h A O s H m Q E (R.deeper _) g;let I:Inv (εK E) [] _ H Z:=Hv S R.hd j (L _ _ _ _ g) r x;show zh (C [] Z _ H _ I D) (λU a l=>?_) λe a l=>l;let F:∀{z:St}{p:Hp}{v:V}{u:gV},Inv (εK E) [] z p a->Yi u->Q v p->CE O P w H s Q u a:=
  λ{z p v u} J d q=>I2f v p J.os J.bare J.base J.hok d q
 cases U with
 |ret u=>show E3c l λv z p J d q=>?_;show F J d q
 |next=>show E2b l λz p J q=>?_;show F (v:=V.non) J rfl q
 |brk=>show E2b l λ_ _ _ q=>?_;show zb q
 |cont=>show E2b l λ_ _ _ q=>?_;show zb q
variable{T:String}
section
variable{p:Pos}{t:TA}{id:String}{r:k_ V->Hp->VK->Prop}
abbrev tCB(r:k_ V->Hp->VK->Prop)(t:TA):TE:=λσ H Q=>t σ H λvs H1=>r vs H1 Q
def yK(c:δA (.builtin id) r)(g:Zu x)(m:X.mg x=a9)(v:Wj x=a8 (.builtin id))(a:PA X (e::es) t)(n:wP (x≠"__name__" ) xL)(d:wP ((x == ("__debug__" : Str))=false) xL)
  (E:wP (wj (e::es) X.env=(false,A5 0)::X2 0) zn) (l:wP ((H_<|wj es X.env).any (·.1)=false) zn):V_ (.Call (.Name x p) (e::es) [] pos) (tCB r t):=by
 show λi s z H Q I h=>zu<|oE I g m v ?_ n d;show PyProof.Rows.callWith_builtin1 (thn (a pos i s z H _ I h) λu S z0=>E2c z0 λV y w R q=>c i S z y V u Q w R q) E l
def Bg(c:δA (.type T) r)(g:Zu x)(m:X.mg x=a9)(v:Wj x=a8 (.type T))(a:PA X (e::es) t)(n:wP (x≠"__name__" ) xL)(d:wP ((x == ("__debug__" : Str))=false) xL)
  (E:wP (wj (e::es) X.env=(false,A5 0)::X2 0) zn) (l:wP ((H_<|wj es X.env).any (·.1)=false) zn):V_ (.Call (.Name x p) (e::es) [] pos) (tCB r t):=by
 show λi s z H Q I h=>zu<|oE I g m v ?_ n d;show Wn (thn (a pos i s z H _ I h) λu S z0=>E2c z0 λV y w R q=>c i S z y V u Q w R q) E l
end
end _L
namespace HT
open PySem PyProof.Rows
variable{A:i_}{E Q:b9 0}{prog:j3}{s:g_}{vs ws:YX 0}{w:j2}
def cat_tup{t b:h_}(ht:Zv t vs.toArray)(hb:Zv b ws.toArray)(hv:vs≠[])(h1:ws=[]->Q (.ref t) s)(h2:ws≠[]->Q (.ref<|b7 s) {s with heap:=s.heap.push {cls:=.type "tuple",data:=.seq (vs++ws).toArray} })(hsz:vs.l+ws.l<=wa):l_ (Vr .Add (.ref t)<|.ref b) Q E s:=by
 let((cls,dd,data,sl),ho,hc,n,hd):=id ht;let((ri,m4,data2,ou),gx,e,n2,n):=id hb;simp only at hc hd e n;subst hc hd e n;let e:vs.toArray++ws.toArray=(vs++ws).toArray:=by simp
 by_cases hw:ws=[]
 ·show concat_meets ⟨_,ho,rfl⟩ ⟨_,gx,rfl⟩ noFill_tuple_add seq_tuple_add PySem.F.slot_tuple_add PySem.F.entry_tuple_add (αt _)
   (tuple_addW1 t b _ _ n n2 dd m4 sl ou (d0 hv)<|by simp[hw]) ⟨ho,gx,h1 hw⟩
 ·show concat_meets ⟨_,ho,rfl⟩ ⟨_,gx,rfl⟩ noFill_tuple_add seq_tuple_add PySem.F.slot_tuple_add PySem.F.entry_tuple_add (αt _)
   (tuple_addW2 t b _ _ n n2 dd m4 sl ou (d0 hv) (d0 hw) (by rw[v9];show hsz)) ⟨ho,gx,?_⟩
  rw[e];show h2 hw
abbrev sIx(n d:Nat):Yd 0->Nat
 |none=>d
 |some v=>if v<0 then(v+(n:Int)).toNat else min v.toNat n
def Pd(n d)(H:d<=n)(o):sIx n d o<=n:=by
 cases o with
 |none=>exact H
 |some v=>
  change(if v<0 then(v+(n)).toNat else min _ n)<=n
  by_cases h:v<0
  ·rw[αR 0];omega
  ·rw[ZU 0];show Nat.min_le_right _ _
def G9(v:Int)(n d:Nat):(if v<0 then max (v+(n)) 0 else min v (n))=((sIx n d (a8 v):Nat):Int):=by
 change(if v<0 then max (v+(n)) 0 else min v (n))=(((if v<0 then(v+(n)).toNat else min _ n):Nat):Int)
 by_cases h:v<0
 ·simp only[αR 0];omega
 ·simp[ZU 0];omega
def EF(lo hi)(n:Nat):γo (n)=(((sIx n 0 lo):Int),((sIx n n hi):Int)):=by
 show Prod.ext ?_ ?_
 ·cases lo with
  |none=>rfl
  |some v=>exact G9 v n 0
 ·cases hi with
  |none=>rfl
  |some v=>exact G9 v n n
def EG(i j:Nat):WA (i) (j) 1=j-i:=by
 unfold WA;let h:(1:Int)>0:=⋯;simp[h];split <;> omega
variable{o:Yd 0}{v:gV}
def yL{Q:Yd 0->g_->Prop}(p:IsPart v o)(h:Q o s):l_ (Builtin.Slice.slicePartIndex v) Q E s:=by
 cases p with
 |none=>exact slicePart_none h
 |int i t=>exact slicePart_int h
variable{hi lo:Yd 0}{n:Nat}{sl:h_}{vl vu:gV}
def sliceApplied_gen{Q:Int×Int×Nat->g_->Prop}(H:Z3 vu .none)(l:IsPart vl lo)(p:IsPart vu hi)(h:Q (((sIx n 0 lo):Int),1,sIx n n hi-sIx n 0 lo) s):l_ (Builtin.Slice.sliceApplied (.ref sl)<|pure<|n) Q E s:=by
 let(O,o,c,d):=id H;show eg<|eg<|VZ o d (x:=vl) rfl<|eg<|VZ o d (x:=vu) rfl<|eg<|VZ o d (x:=.none) rfl<|vh ?_;show eg<|slicePart_none ?_;show eg<|yL l<|eg<|yL p<|eg<|vh ?_
 change n7 (match γo (n) with|(lo,hi)=>pure (lo,(1:Int),WA lo hi 1)) _ _ s
 rw[EF lo hi n]
 change n7 (pure (((sIx n 0 lo):Int),(1),WA ((sIx n 0 lo):Int) ((sIx n n hi):Int) 1)) _ _ s
 rw[EG];show vh h
def J8(xs:K_ 0)(i k:Nat):((xf k).filterMap λ(m:Nat)=>xs[((i:Int)+(m)*1).toNat]?).toArray=((xs.toList.drop i).take k).toArray:=by
 let e:(λ(m:Nat)=>xs[((i:Int)+(m)*1).toNat]?)=λm=>xs[i+m]?:=by
  funext m;have:((i:Int)+(m)*1).toNat=i+m:=⋯;rw[this]
 rw[e];have:=pick_run xs i k;rw[List.filterMap_map]at this;let z:((λx=>xs[x]?)∘λx=>i+x)=λm=>xs[i+m]?:=rfl;rw[z]at this;rw[this]
variable{items:K_ 0}
def getItem_tuple_cut{t:h_}(ht:Zv t items)(hs:Z3 vu .none)(pl:IsPart vl lo)(pu:IsPart vu hi)(hw:¬ (W_ 0 lo=0/\α8 hi=items.size))(h:Q (.ref<|b7 s) {s with heap:=s.heap.push {cls:=.type "tuple",data:=.seq ((items.toList.drop<|sIx items.size 0 lo).take<|sIx items.size items.size hi-W_ 0 lo).toArray} })(hsz:items.size<=wa):l_ (getItem (.ref t)<|.ref sl) Q E s:=by
 let cg:sizeOk (.seq ((items.toList.drop<|sIx items.size 0 lo).take<|sIx items.size items.size hi-W_ 0 lo).toArray):=by
  change((items.toList.drop<|sIx items.size 0 lo).take<|sIx items.size items.size hi-W_ 0 lo).toArray.size<=wa
  rw[v9,zm,List.length_drop,Array.length_toList];omega
 let hj:α8 hi<=items.size:=Pd _ _ (vk _) hi;let(os,j5,rb,hds):=id hs;let qm:s.TypeIs (.ref sl) "slice" := ⟨os,j5,rb⟩;unfold getItem
 try with_reducible refine yq ?_
 first|refine eg (vh ?_)|skip
 show eg (wpAny_sequenceKey ht.typeIs (by decide) ?_);show eg (yb (name:=v3 "__getitem__") ht.typeIs ze
  (yc ze ht.typeIs entry_tuple_getitem ?_ (args_tuple_getitem _ _)))
 change n7 (Xq (.ref t) >>= _) _ _ s
 show eg<|tupleItemsOf_ ht ?_;show eg<|Wt qm ?_;rw[if_pos<|by decide];show eg<|sliceApplied_gen hs pl pu ?_;let qo:¬ ((((sIx items.size 0 lo:Nat):Int) == 0&&(1:Int) == 1&&(α8 hi-W_ 0 lo) == items.size)=true):=by intro q;rw[wy,wy]at q;let q1:((sIx items.size 0 lo:Nat):Int)=0:=eq_of_beq q.1.1;let q2:α8 hi-W_ 0 lo=items.size:=eq_of_beq q.2;show hw ⟨⋯,⋯⟩
 change n7 (if(((sIx items.size 0 lo:Nat):Int) == 0&&(1:Int) == 1&&(α8 hi-W_ 0 lo) == items.size)=true then _ else _) _ _ s
 rw[if_neg qo,J8]
 first
  |exact eg (m:=WI _) (wt (vh ⟨_,rfl,vh h⟩) cg)
  |exact eg (m:=WI _) (wt (eg<|vh<|vh ⟨_,rfl,vh h⟩) cg)
  |exact eg (eg (m:=WI _)<|wt (vh<|vh ⟨_,rfl,vh h⟩) cg)
  |exact eg (eg (m:=WI _)<|wt (vh ⟨_,rfl,vh h⟩) cg)
end HT
namespace _L
@[reducible]def TO:=St->Hp->(Yd 0->Hp->Prop)->Prop
abbrev PO(X:Cx)(e:l7 j_)(t:TO):Prop:=
 ∀(c6:b_ 0)(s:g_)(σ:St)(H:Hp)(Q:Yd 0->Hp->Prop),u_ s->t σ H Q->
  wpAny (c3 X) X.A (evalPart e X.env) (λu s'=>∃o H',εe s'/\IsPart u o/\Q o H') X.xe s
abbrev Mf:TO:=λ_ H Q=>Q a9 H
variable{ns:YV 0}
def intsAre_of:∀{us:YX 0},aO (ZF 0) us->IntsAre us ns:=by
 induction ns with
 |nil=>intro us r;rw[List.map_nil]at r;cases r;show .nil
 |cons n ns i=>
  intro us r;cases r with
  |cons R z=>let⟨t,e⟩:=R;subst e;show .cons n t<|i z
variable{X:Cx}{hi lo:l7 j_}{e:j_}{p2 pos:Pos}{te:TE}{us:YX 0}
section
variable{tl th:TO}
def Mh:PO X a9 Mf:=by show λp s z H Q I h=>vh<|I2c a9 H I .none h
abbrev SlR(X:Cx)(r:V->Yd 0->Yd 0->Hp->VK->Prop):Prop:=
 ∀(c6:b_ 0)(s:g_)(σ:St)(H:Hp)(x:V)(v vl vu:gV)(lo hi:Yd 0)(sl:h_)(Q:VK),u_ s->P2 v->Z3 vu .none->IsPart vl lo->IsPart vu hi->r x lo hi H Q->
  ∃T id,typeLookup (.type T) "__getitem__" = pure (a8<|.builtin id)/\εM T/\wpAny (c3 X) X.A (getItem v<|.ref sl) (X3 Q) X.xe s
def SlR.or{r r':V->Yd 0->Yd 0->Hp->VK->Prop}(h:εz r)(h':εz r'):εz (λx o i H Q=>r x o i H Q\/r' x o i H Q):=by
 intro p s y H x v z U o i L Q I R S l u q;rcases q with q|q
 ·show h p s y H x v z U o i L Q I R S l u q
 ·show h' p s y H x v z U o i L Q I R S l u q
abbrev tSl(r:V->Yd 0->Yd 0->Hp->VK->Prop)(te:TE)(tl th:TO):TE:=λσ H Q=>te σ H λx H1=>tl σ H1 λl H2=>th σ H2 λu H3=>r x l u H3 Q
def J9{r:V->Yd 0->Yd 0->Hp->VK->Prop}(R:εz r)(E:V_ e te)(f:PO X lo tl)(c:PO X hi th):V_ (.Subscript e (.Slice lo hi a9 p2) pos) (tSl r te tl th):=by
 show λp s z H Q I h=>Subscript_<|thn (γn h) λv N z2=>E2c z2 λx t n O Z=>?_;show wpAny_Slice<|thn (f p N z t _ n Z) λL M z1=>E2c z1 λl o m P Y=>thn (c p M z o _ m Y) λU S z0=>E2c z0 λu y k a W=>?_;show vh ?_;let j:Yq p z y { S with heap:=S.heap.push {cls:=.type "slice",data:=.fields #[L,U,.none]} }:=k.kept λb B q=>X4 q;let(T,D,(i),d,g):=R p { S with heap:=S.heap.push {cls:=.type "slice",data:=.fields #[L,U,.none]} } z y x v L U l u S.heap.objs.size Q j O (Heap.IsSliceOf.new ..) P a W
 change wpAny (model _ X.w) X.A (subscriptTail e _ v<|.ref _) _ X.xe { S with heap:=S.heap.push {cls:=.type "slice",data:=.fields #[L,U,.none]} }
 show tail_any (ops:=[.ref _,v]) d i g rfl
abbrev Hw(xs:k_ V)(lo hi:Yd 0):k_ V:=(xs.drop<|HT.sIx xs.l 0 lo).take<|HT.sIx xs.l xs.l hi-αX 0 lo
def wB(xs)(lo hi):(Hw xs lo hi).length<=xs.l:=by unfold Hw;rw[zm,List.length_drop];omega
abbrev Ru(K:vj):V->Yd 0->Yd 0->Hp->VK->Prop:=λx lo hi H Q=>∃a xs,x=.ref a/\Yk a xs/\
 ¬ (αX 0 lo=0/\αX xs.l hi=xs.l)/\∀p,H p=a9->Q (.ref p) (x_ p<|.tup<|Hw xs lo hi)
def Pe:εz (Ru X.K):=by
 show λp s m H x v V n O h L Q I R y P U z6=>E2d z6 λa S z0 u w q=>?_;subst z0;subst R;let(i,(r),t,z):=I.tuple u;let l:i.toArray.size=S.l:=by rw[v9];show r.length.symm
 show I2c ("tuple") _ ze.lookup t.typeIs ?_;show HT.getItem_tuple_cut t y P U (by rw[l];show w) ?_ (by rw[l];show z);rw[l];show I2c (.ref _) _ (I.laid (λb o q=>X4 q) (vk _) ?_) rfl<|q _<|I.hok.fresh<|vk _;show(vz (wB S O h) z,_,(r.drop<|HT.sIx _ 0 O).take<|HT.sIx _ _ h-HT.sIx _ 0 O,wV.new _ _)
abbrev Oe(K:vj):R2:=λx y H Q=>∃a b xs ys,x=.ref a/\y=.ref b/\Yk a xs/\Yk b ys/\xs≠[]/\xs.l+ys.l<=wa/\
 (ys=[]->Q (.ref a) H)/\(ys≠[]->∀p,H p=a9->Q (.ref p) (x_ p<|.tup<|xs++ys))
def aO.nil_iff{xs:k_ V}(r:ZK us):us=[]↔xs=[]:=by
 cases r with
 |nil=>simp
 |cons _ _=>simp
def Mj:O_ (Vr .Add) (Oe X.K):=by show λp s k H x y v u Q I m Y iw=>E4h iw λa b S l z0 z1 A B t Z o n=>?_;subst z0;subst z1;subst m;subst Y;let(T,(R),P,_):=I.tuple A;let(i,(r),j,_):=I.tuple B;show HT.cat_tup P j (λz=>t<|R.nil_iff.mp z) (λz=>(I2c (.ref a) H I rfl<|o<|r.nil_iff.mp z)) (λz=>?_) (by rw[<-R.length,<-r.length];show Z);show I2c (.ref _) _ (I.laid (λb O q=>X4 q) (vk _) ?_) rfl<|n (λw=>z<|r.nil_iff.mpr w) _<|I.hok.fresh<|vk _;show(by rw[ye];show Z,_,R.append r,wV.new _ _)
end
abbrev ixN(n:Nat)(i:Int):l7 Nat:=if 0<=i then(if i<n then a8 i.toNat else a9) else if -(n:Int)<=i then a8 (i+n).toNat else a9
abbrev atI{α:Type}(xs:k_ α)(i:Int):l7 α:=(ixN xs.l i).bind λj=>xs[j]?
variable{j n:Nat}
def Ga{i:Int}(h:ixN n i=a8 j):seqIndex? i n=a8 j/\j<n/\-(n)<=i/\i<n:=by
 unfold ixN at h;by_cases z:0<=i
 ·rw[β6 0]at h;by_cases H:i<n
  ·rw[βf 0]at h;let e:=wu h;show(by rw[seqIndex_of z H,e],⋯,⋯,H)
  ·rw[γM 0]at h;exists h
 ·rw[γN 0]at h;by_cases H:-(n)<=i
  ·rw[βf 0]at h;let e:=wu h;show(by rw[seqIndex_neg ⋯ H,e],⋯,H,⋯)
  ·rw[γM 0]at h;exists h
def C0{α:Type}{xs:k_ α}{i:Int}{v:α}(h:βa i=a8 v):∃j,seqIndex? i xs.l=a8 j/\xs[j]?=a8 v/\j<xs.l/\-(xs.l:Int)<=i/\i<xs.l:=by
 unfold atI at h;cases e:ixN _ i with
 |none=>rw[e]at h;exists h
 |some j=>rw[e]at h;let((H),z,y,x):=Ga e;show I1e j H h z y x
abbrev Gb(b:j_):Prop:=∀o i,subscripted b false o i=operate [o,i] (getItem o i)
abbrev IxR(X:Cx)(r:R2):Prop:=
 ∀(value slice:j_)(c6:b_ 0)(s:g_)(σ:St)(H:Hp)(x y:V)(v u:gV)(Q:VK),u_ s->P2 v->X_ u->ε3 Q->
  subscripted slice false v u=operate [v,u] (getItem v u)->wpAny (c3 X) X.A (subscriptTail value slice v u) (X3 Q) X.xe s
abbrev MtR(X:Cx)(id:String)(r:V->k_ V->Hp->VK->Prop):Prop:=
 ∀(c6:b_ 0)(s:g_)(σ:St)(H:Hp)(x:V)(xs:k_ V)(v:gV)(us:YX 0)(Q:VK),u_ s->P2 v->ZK us->r x xs H Q->
  wpAny (c3 X) X.A (call (.builtin id) (v::us)) (X3 Q) X.xe s
variable{r':R2}{ta tb:TE}{H:Hp}{bf its:YX 0}{c6:b_ 0}{s:g_}{T:String}{v:gV}{ae apos:Pos}{name:Str}{es:k_ j_}
section
variable{a b:j_}
def IxR.or{r:R2}(h:εA r)(h':εA r'):εA (λx y H Q=>ε3 Q\/r' x y H Q):=by
 intro e l p s z H x y v u Q I R Y q S;rcases q with q|q
 ·show h e l p s z H x y v u Q I R Y q S
 ·show h' e l p s z H x y v u Q I R Y q S
def Rv{r:R2}(R:εA r)(A:V_ a ta)(hb:V_ b tb)(S:Gb b):V_ (.Subscript a b pos) (tOp r ta tb):=by show λp s n H Q I h=>Subscript_<|OY A hb I h λv u o x y z w t Y q=>R a b p o n z x y v u Q w t Y q<|S _ _
abbrev Uk(K:vj):R2:=λx y H Q=>∃p xs i v,x=.ref p/\y=.int i/\Yu p xs/\βa i=a8 v/\Q v H
abbrev Ul(K:vj):R2:=λx y H Q=>∃p xs i v,x=.ref p/\y=.int i/\Yk p xs/\βa i=a8 v/\Q v H
abbrev Um:R2:=λx y H Q=>∃z i c,x=.str z/\y=.int i/\z.l<=wa/\βb i=a8 c/\Q (.str ⟨#[c]⟩) H
def Ml:εA (Uk X.K):=by
 intro e c n s U H x y v u Q I W V h S;let(p,M,i,z,(z0),z1,Y,Z,q):=h;subst z0;subst z1;subst W;let(t,rfl):=V;let(T,(r),l,O):=I.list Y;let(j,(o),k,P,g,d):=C0 Z;let(w,(E),R):=r.get k;let L:=r.l;let N:=yF;let f:EP X n U Q w s:=I2c z H I R q;by_cases m:0<=i
 ·let J:i.toNat=j:=by rw[seqIndex_of m d]at o;show wu o
  show item_listR l.isList m ⋯ (by rw[J];simpa using E) f S
 ·let J:(i+(T.toArray.size:Int)).toNat=j:=by rw[seqIndex_neg ⋯ g]at o;rw[v9,<-L];show wu o
  show subscriptTail_builtinR l.isList.typeIs slot_list_getitem.lookup
   (wpAny_getItem_list_neg l.isList ⋯ (by rw[v9] <;> omega) ⋯ (by rw[J];simpa using E) ⟨rfl,f⟩) S
def Pf:εA (Ul X.K):=by
 intro e l n s U H x y v u Q I f Y h S;let(p,V,i,z,(z0),z1,g,k,q):=h;subst z0;subst z1;subst f;let(t,rfl):=Y;let(T,(r),P,W):=I.tuple g;let(j,(o),m,d,c,Z):=C0 k;let(w,(E),R):=r.get m;let N:=yF;show subscriptTail_builtinR P.typeIs slot_tuple_getitem.lookup
  (getItem_tuple P ⋯ ⋯ (by rw[v9,<-r.length];show o) (d0 E) ⟨rfl,(I2c z H I R q)⟩) S
def Pg:εA Um:=by
 intro e l p s k H x y v u Q I R Y h S;let(z,i,c,(z0),z1,Z,E,q):=h;subst z0;subst z1;let(t,rfl):=R;let(T,rfl):=Y;let(j,(w),r,m,o,n):=C0 E;let L:z.cps.toList.l=z.l:=by simp[Xn]
 rw[L]at w o n;let N:=yF;show tail_any (βs z t) slot_str_getitem.lookup (getItem_str (by rw[decide_eq_false ⋯,(decide_eq_false ⋯),Bool.or_false]) (by rw[w];simpa using r) (I2c (.str ⟨#[c]⟩) H (YT 0) ⟨_,rfl⟩ q)) S
def EH(its:YX 0)(n j)(u):yk (·.setIfInBounds j u) {cls:=.type "list",data:=.seq its.toArray n}={cls:=.type "list",data:=.seq (its.set j u).toArray n}:=by simp[yk]
def Inv.lst{c6:b_ 0}{σ:St}{H:Hp}{s:g_}{p:h_}{xs:k_ V}(I:u_ s)(h:H p=a8 (.lst xs)):
  ∃(i:YX 0)(n:Nat),ZK i/\s.heap.get? p=a8 {cls:=.type "list",data:=.seq i.toArray n}/\xs.l<=wa:=by
 let(z,i,n,r,e):=δz h;show I2c i n r e z
def Inv.lstUpd{σ:St}{p:h_}{xs ys:k_ V}{n':Nat}{f:Obj->Obj}(I:u_ s)(h:H p=a8 (.lst xs))(o:s.heap.get? p=a8 {cls:=.type "list",data:=.seq its.toArray n})(F:f {cls:=.type "list",data:=.seq its.toArray n}={cls:=.type "list",data:=.seq bf.toArray n'})(r:aO ys bf)(hz:ys.l<=wa)(t):
  c8 (x_ p<|.lst ys) {s with heap:=δD f,toks:=t}:=by
 let e:(δD f).get? p=a8 {cls:=.type "list",data:=.seq bf.toArray n'}:=by rw[yx f o (by rw[F] <;> rfl),F]
 show I.write (by rw[h];trivial) (.inl rfl) (λb u B q=>(zt _ _<|xy B).trans q) ⟨_,e⟩ ?_;show(hz,bf,n',r,e)
abbrev Rw:V->V->V->Hp->(Hp->Prop)->Prop:=λo i v H Q=>∃p xs k j,o=.ref p/\i=.int k/\H p=a8 (.lst xs)/\ixN xs.l k=a8 j/\Q (x_ p<|.lst<|xs.set j v)
def set_list:U' X Rw:=by
 show λP s e H o i v Y c u Q I f R V z9=>E4e z9 λp S k j z0 z1 g J q=>?_;subst z0;subst z1;subst f;let(t,rfl):=R;let(T,n,(r),O,Z):=I.lst g;let((z),d,w,m):=Ga J;let l:=r.l;let N:=yF;let y:Yq P e (x_ p<|.lst _) {s with heap:=δD (yk _)}:=I.lstUpd g O (EH T n j u) (r.set V j) (by rw[wo];show Z) _;by_cases x:0<=k
 ·let K:k.toNat=j:=by rw[seqIndex_of x m]at z;show wu z
  show PySem.W.ki_setAt O x ⋯ (by rw[v9,<-l];show m) (by rw[K];show(A0 y q))
 ·let K:(k+(T.toArray.size:Int)).toNat=j:=by rw[seqIndex_neg ⋯ w]at z;rw[v9,<-l];show wu z
  show PySem.W.ki_setBack O ⋯ (by rw[v9,<-l];show w) ⋯ (by rw[K];show(A0 y q))
def C1(lo hi:Yd 0)(n:Nat):(βT n).1=((HT.sIx n 0 lo:Nat):Int)/\(βT n).2.1=((HT.sIx n n hi:Nat):Int)/\(βT n).2.2=1:=by
 show(?_,?_,rfl)
 ·cases lo with
  |none=>simp[sliceBounds,HT.sIx]
  |some i=>
   simp only[sliceBounds,HT.sIx,Option.getD_none,show(1:Int)>0 by decide,if_true]
   by_cases h:i<0
   ·simp only[h,if_true] <;> omega
   ·simp only[h,if_false] <;> omega
 ·cases hi with
  |none=>simp[sliceBounds,HT.sIx]
  |some i=>
   simp only[sliceBounds,HT.sIx,Option.getD_none,show(1:Int)>0 by decide,if_true]
   by_cases h:i<0
   ·simp only[h,if_true] <;> omega
   ·simp only[h,if_false] <;> omega
def AS(its:YX 0)(lo hi):slicePick its.toArray lo hi a9=((its.drop<|HT.sIx its.l 0 lo).take<|HT.sIx its.l its.l hi-HT.sIx its.l 0 lo).toArray:=by let(h,H,z):=C1 lo hi _;unfold slicePick;rw[h,H,z];simp only[sliceRange_one,pick_run] <;> rfl
abbrev Rx(K:vj):V->Yd 0->Yd 0->Hp->VK->Prop:=λx lo hi H Q=>∃a xs,x=.ref a/\Yu a xs/\∀p,H p=a9->Q (.ref p) (x_ p<|.lst<|Hw xs lo hi)
def Mn:εz (Rx X.K):=by show λp s w H x v V U o i L Q I R z P u z5=>E2c z5 λa S z0 y q=>?_;subst z0;subst R;let(T,(r),t,Z):=I.list y;let l:=r.l;show I2c ("list") _ slot_list_getitem.lookup t.isList.typeIs ?_;show wpAny_getItem_list_slice t.isList z P u .none (by simp) ?_ (by rw[v9] <;> omega);rw[AS,<-l];show I2c (.ref _) _ (I.laid (λb O q=>X4 q) (vk _) ?_) rfl<|q _<|I.hok.fresh<|vk _;show(vz (wB S o i) Z,_,0,(r.drop<|HT.sIx _ 0 o).take<|HT.sIx _ _ i-HT.sIx _ 0 o,YU rfl)
def C2:δA (.builtin "len") (λx H Q=>∃p y,x=[.ref p]/\(αK p y\/βn p y)/\Q (.int y.l) H):=by
 rintro n s v H x U Q I r ⟨p,y,rfl,z,q⟩;let(u,rfl,w):=εw 0;subst w;let N:=yF;rcases z with z|z
 ·let(i,R,P,Z):=I.list z;let l:=R.l;show δm (by simp only[v9] <;> omega) ⟨.int _,H,YT 0,⟨s.toks+1,by rw[v9,l]⟩,q⟩
 ·let(i,R,P,Z):=I.tuple z;let l:=R.l;show len_tuple P (by simp only[v9] <;> omega) ⟨.int _,H,YT 0,⟨s.toks+1,by rw[v9,l]⟩,q⟩
def cF.or{f:gV}{r r':k_ V->Hp->VK->Prop}(h:δA f r)(h':δA f r'):δA f (λx H Q=>r x H Q\/r' x H Q):=by
 intro p s z H x u Q I R q;rcases q with q|q
 ·show Zx x u Q I R q
 ·show h' p s z H x u Q I R q
def C3:δA (.type "list") (λS H Q=>∃p y,S=[.ref p]/\(αK p y\/βn p y)/\∀l,H l=a9->Q (.ref l) (x_ l<|.lst y)):=by
 show λP s j H S U Q I r z5=>E2c z5 λp y z0 x q=>?_;subst z0;let(u,rfl,m):=εw 0;subst m;let f:∀(i),aO y i->y.l<=wa->∀(z:jo)(c),(∀b t,tx 0=a8 t->z.get? b=a8 t)->
   z.get? (b7 s)=a8 {cls:=.type "list",dict:=a9,data:=.seq _ c,slots:=#[]}->EP X P j Q (.ref _) {s with heap:=z}:=λi R Z z c k e=>
  (I2c (.ref _) _ (I.laid k (vk _)<|show bS _ X.w _ z _ (.lst y) from⟨Z,i,c,R,e⟩) rfl<|q _<|I.hok.fresh<|vk _)
 rcases x with x|x
 ·let(i,R,v,Z):=I.list x;let L:=R.l;let(o,O,C,n,d):=v.isList;show call_list_seq p (.inl rfl) O C d (λz c k e=>f i R Z z c k e) (by simp <;> omega)
 ·let(i,R,v,Z):=I.tuple x;let L:=R.l;let(o,O,C,n,d):=v;show call_list_seq p (.inr rfl) O C d (λz c k e=>f i R Z z c k e) (by simp <;> omega)
def AU:δA (.type "tuple") (λS H Q=>∃p y,S=[.ref p]/\((αK p y/\∀l,H l=a9->Q (.ref l) (x_ l<|.tup y))\/(βn p y/\Q (.ref p) H))):=by
 intro i s m H S U Q I r h;let(p,y,rfl,h):=h;let(u,rfl,g):=εw 0;subst g;rcases h with⟨x,q⟩|⟨x,q⟩
 ·let(t,(R),P,Z):=I.list x;let n:=R.l;show call_tuple_list P.isList (λz j=>?_) (by simp <;> omega);let v:Yq i m H {s with heap:=z}:=I.kept j;let k:Yq i m (x_ _<|.tup y) {s with heap:=z.push {cls:=.type "tuple",data:=.seq _} }:=v.laid (λb o e=>X4 e) (vk _) (show bS _ X.w _ _ _ _ from⟨Z,t,R,wV.new _ _⟩)
  show I2c (.ref _) _ k rfl<|q _<|v.hok.fresh<|vk _
 ·let(t,R,P,Z):=I.tuple x;show call_tuple_same P<|I2c (.ref p) H I rfl q
abbrev tyV(K:vj)(T:String)(x:V)(H:Hp):Prop:=match x with
 |.str _=>T="str"
 |.int _=>T="int"
 | .ref p=>(T="list" /\ ∃ xs,Yu p xs)\/(T="tuple" /\ ∃ o,K.lookup p=a8 o/\o.cls=.type "tuple" /\ o.dict=a9)\/
   (T="dict" /\ ((∃kvs,H p=a8 (.dK kvs))\/∃kvs,H p=a8 (.dT kvs)))\/(T="set" /\ ∃S n,H p=a8 (.set S n))
 |_=>False
def J'{σ:St}{x:V}(I:u_ s)(r:P2 v)(y:tyV X.K T x H):
  εM T/\∀a,v=.ref a->∃O,C_ 0=a8 O/\O.dict=a9:=by
 cases x with
 |str z=>
  let(t,rfl):=r;cases(show T="str" from y)
  show(βs z t,λ_ e=>nomatch e)
 |int i=>
  let(t,rfl):=r;cases(show T="int" from y)
  show(typeIs_int s i t,λ_ e=>nomatch e)
 |ref p=>
  subst r;rcases y with⟨rfl,m,q⟩|⟨rfl,o,h,C,d⟩|⟨rfl,h⟩|⟨rfl,S,n,h⟩
  ·let(u,(_),l,_):=I.list q;show(l.isList.typeIs,λa e=>?_)
   exists e
   let(o,n,(e),c,d,_):=l;show(o,e,d)
  ·show(⟨o,I.kIn p o h,C⟩,λa e=>?_);cases e
   show(o,I.kIn _ o h,d)
  ·let z:∃o,s.heap.get? p=a8 o/\o.ExactDict:=by
    rcases h with⟨k,h⟩|⟨k,h⟩
    ·let(_,_,_,_,o,_,_,e,E,_):=δz h;show(o,e,E)
    ·let(_,_,_,_,o,_,_,e,E,_):=δz h;show(o,e,E)
   let(o,e,E):=z;show(⟨o,e,E.1⟩,λa w=>?_);cases w
   show(o,e,E.2.1)
  ·let(o,_,_,_,(e),E,_):=δz h;show(⟨o,e,E.1⟩,λa w=>?_)
   exists w
   show(o,e,E.2.1)
 |_=>exact zb y
abbrev Uo(K:vj)(T:String)(r:V->k_ V->Hp->VK->Prop)(to:TE):TE:=λσ H Q=>to σ H λx H1=>tyV K T x H1/\r x [] H1 Q
abbrev tBM(K:vj)(T:String)(r:V->k_ V->Hp->VK->Prop)(to:TE)(t:TA):TE:=λσ H Q=>to σ H λx H1=>tyV K T x H1/\t σ H1 λxs H2=>r x xs H2 Q
variable{o:j_}{to:TE}{t:TA}{id:String}{r:V->k_ V->Hp->VK->Prop}
def Ph(P:γi 0)(S:αS 0)(y:typeOf (.builtin id)=pure (.type "method_descriptor"))(m:δn r)(O:V_ o to)
  (B:wP (ZQ (Yl 0)=Yl 0) zn) (l:wP ((apos.endLine == ae.line)=true) zn):V_ (.Call (.Attribute o name apos) [] [] ae) (Uo X.K T r to):=by
 show λp s w H Q I h=>wpAny_Call_method0_late B l<|thn (O p s w H _ I h) λv j z0=>E2d z0 λx u z R Y k=>?_;let(q,n):=J' z R Y;show I2f T id P S y q n<|Wp rfl<|PySem.evalArgs_none<|m p j w u x [] v [] Q z R .nil k
def Ry(P:γi 0)(S:αS 0)(y:typeOf (.builtin id)=pure (.type "method_descriptor"))(M:δn r)(O:V_ o to)(j:PA X (e::es) t)
  (B:wP (ZQ (Yl 0)=Yl 0) zn)
  (f:wP (((Y6 (wj (e::es) X.env)).all (λx=>!x.1)&&(δE (keywordEach [] X.env)).all (λx=>x.1.isSome)
   && decide ((e::es).length+([]:γj 0).length+(if([]:γj 0).isEmpty then 0 else 1)<30))=true) zn)
  (l:wP ((apos.endLine == ae.line)=true) zn) (g:wP (wj (e::es) X.env=(false,A5 0)::X2 0) zn) (i:wP ((Y6<|wj es X.env).any (·.1)=false) zn):
  V_ (.Call (.Attribute o name apos) (e::es) [] ae) (tBM X.K T r to t):=by
 show λp s z H Q I h=>wpAny_Call_method_late B f l rfl<|thn (O p s z H _ I h) λv Y z1=>E2d z1 λx u w R V d=>?_;let(m,k):=J' w R V;show I2f T id P S y m k ?_;let A:=j ae p Y z u _ w d;rw[g]at A⊢;show Wp (by assumption)<|Calls.evalArgs_plain ?_;show thn A λU W z0=>E2c z0 λN q n Z c=>M p W z q x N v U Q n R Z c
end
abbrev MtM(X:Cx)(id:String)(r:V->k_ V->Hp->VK->Prop):Prop:=
 ∀(c6:b_ 0)(s:g_)(σ:St)(H:Hp)(x:V)(xs:k_ V)(v:gV)(us:YX 0)(Q:VK),u_ s->P2 v->ZK us->r x xs H Q->
  wpAny (c3 X) X.A (call (.builtin id) (v::us)) (X3 Q) X.xe s
def aO.one:∀{x:V}{us:YX 0},aO [x] us->∃u,us=[u]/\P2 u
 |_,_,.cons r .nil=>A0 rfl r
def aO.zero:∀{us:YX 0},aO [] us->us=[]
 |_,.nil=>rfl
def aO.dropLast{xs:k_ V}(h:ZK us):aO xs.dropLast us.dropLast:=by
 induction h with
 |nil=>exact .nil
 |cons r t i=>
  cases t with
  |nil=>exact .nil
  |cons q T=>exact .cons r i
def EI{α:Type}(l:k_ α):l.eraseIdx (l.l-1)=l.dropLast:=by
 induction l with
 |nil=>rfl
 |cons a r i=>
  cases r with
  |nil=>rfl
  |cons b r=>
   let e:(a::b::r).length-1=((b::r).length-1)+1:=rfl;rw[e,List.eraseIdx_cons_succ,i]
   all_goals rfl
variable{t':Nat}
section
variable{σ:St}{l b:h_}{xs ys zs:k_ V}
def Inv.lset{f:K_ 0->K_ 0}(I:u_ s)(h:H l=a8 (.lst xs))(e:s.heap.get? l=a8 {cls:=.type "list",data:=.seq its.toArray n})(F:f its.toArray=bf.toArray)(v:aO ys bf)(hz:ys.l<=wa):
  c8 (x_ l<|.lst ys) {s with heap:=s.heap.update l<|yk f,toks:=t'}:=by
 let q:=PySem.IsL.update e f;rw[F]at q;show I.write (by rw[h];show trivial) (.inl rfl) (λz u B U=>(zt _ _<|xy B).trans U) ⟨_,q⟩ ?_;show(hz,bf,_,v,q)
def Inv.lnew(I:u_ s)(h:aO ys its)(hz:ys.l<=wa):
  c8 (x_ (b7 s)<|.lst ys) {s with heap:=s.heap.push {cls:=.type "list",data:=.seq its.toArray},toks:=t'}:=
 I.laid (λ_ _ q=>X4 q) (vk _) ⟨hz,its,0,h,YU rfl⟩
def Inv.fresh(I:u_ s):H (b7 s)=a9:=I.hok.fresh<|vk _
def Inv.lstM(I:u_ s)(h:H l=a8 (.lst xs)):xs.l<=wa/\∃(i:YX 0)(n:Nat),ZK i/\xs.l=i.l/\s.heap.get? l=a8 {cls:=.type "list",data:=.seq i.toArray n}:=by let(z,i,n,r,e):=I.hok l _ h;show(z,i,n,r,r.length,e)
def Ja(h:n<=wa):Builtin.List.listTooLong n=false:=by show decide_eq_false ⋯
end
abbrev Mp:V->k_ V->Hp->VK->Prop:=λx vs H Q=>∃l xs y,x=.ref l/\vs=[y]/\H l=a8 (.lst xs)/\xs.l<wa/\Q .non (x_ l<|.lst<|xs++[y])
def Bh:MtM X "list.append" Mp:=by show λp s m H x S v U Q I t V z8=>εj 0 λl o y z0 z1 w Z q=>?_;subst z0;subst z1;subst t;let(u,rfl,R):=V.one;let(z,i,n,r,L,e):=I.lstM w;show call_meets F.slot_list_append (A0 e rfl) F.entry_list_append (F.args_list_append_2 _ _) (PySem.list_append l _ n u (by rw[v9];omega)) ⟨e,?_⟩;show I2c .non _ (I.lset w e (by simp) (r.append<|.cons R .nil) ?_) rfl q;rw[ye,List.length_singleton];omega
abbrev Mq:V->k_ V->Hp->VK->Prop:=λx vs H Q=>∃l b xs zs,x=.ref l/\vs=[.ref b]/\H l=a8 (.lst xs)/\H b=a8 (.lst zs)/\xs.l+zs.l<=wa/\Q .non (x_ l<|.lst<|xs++zs)
def Hx:MtM X "list.extend" Mq:=by
 show λp s c H x j v k Q I w V dv=>E4f dv λl b g d z0 z1 y B Z q=>?_;subst z0;subst z1;subst w;let(u,rfl,U):=V.one;subst U;let(z,t,n,r,m,e):=I.lstM y;let(f,i,N,R,L,E):=I.lstM B;let S:t.toArray.size+i.toArray.size<=wa:=by simp_all
 let o:¬ (!t.toArray.isEmpty&&Builtin.List.listTooLong (t.toArray.size+i.toArray.size))=true:=by rw[Ja S,Bool.and_false];show wg
 show call_meets F.slot_list_extend (A0 e rfl) F.entry_list_extend (F.args_list_extend_2 _ _)
  (AutoSeq1.list_extend_list_list_0 l _ n b _ N o (by rw[v9];omega) ⋯) ⟨e,E,?_⟩
 show I2c .non _ (I.lset y e (by simp) (r.append R) ?_) rfl q;rw[ye];omega
abbrev Up:V->k_ V->Hp->VK->Prop:=λx vs H Q=>∃l xs y,x=.ref l/\vs=[]/\H l=a8 (.lst xs)/\xs[xs.length-1]?=a8 y/\Q y (x_ l<|.lst xs.dropLast)
def Pi:MtM X "list.pop" Up:=by
 intro p s g H x k v S Q I o V h;let(l,j,y,(z0),z1,w,t,q):=h;subst z0;subst z1;subst o;let U:=V.zero;subst U;let(z,i,n,r,L,e):=I.lstM w;let(u,(m),R):=r.get t;let Y:i.toArray[i.toArray.size-1]?=a8 u:=by simp_all
 show call_meets F.slot_list_pop (A0 e rfl) F.entry_list_pop (F.args_list_pop_1 _) (MeetsSeq.list_pop_last l i.toArray n u Y (by rw[v9];omega)) ⟨e,?_⟩;show I2c y _ (I.lset w e ?_ r.dropLast ?_) R q
 ·rw[v9,List.eraseIdxIfInBounds_toArray,EI]
 ·rw[List.length_dropLast];omega
abbrev Pj:V->k_ V->Hp->VK->Prop:=λx vs H Q=>∃l xs,x=.ref l/\vs=[]/\H l=a8 (.lst xs)/\Q .non (x_ l<|.lst [])
def Jb:MtM X "list.clear" Pj:=by intro p s t H x V v U Q I w R h;let(l,S,(z0),z1,y,q):=h;subst z0;subst z1;subst w;let u:=R.zero;subst u;let(z,i,n,r,L,e):=I.lstM y;show call_meets F.slot_list_clear (A0 e rfl) F.entry_list_clear (F.args_list_clear_1 _) (AutoSeq1.list_clear_list_0 l i.toArray n (by rw[v9];omega)) ⟨e,?_⟩;show I2c .non _ (I.lset y e rfl .nil<|w6 _) rfl q
abbrev Rz:R2:=λx y H Q=>∃l b xs zs,x=.ref l/\y=.ref b/\H l=a8 (.lst xs)/\H b=a8 (.lst zs)/\xs.l+zs.l<=wa/\∀p,H p=a9->Q (.ref p) (x_ p<|.lst<|xs++zs)
def Pk:O_ (Vr .Add) Rz:=by
 intro p s g H x y v u Q I o Y h;let(l,b,S,j,(z0),z1,w,B,Z,q):=h;subst z0;subst z1;subst o;subst Y;let(z,t,n,r,m,e):=I.lstM w;let(k,i,N,R,L,E):=I.lstM B;show PySem.P.add_list e E ?_ (by rw[v9,v9];omega);let a:t.toArray++i.toArray=(t++i).toArray:=by simp
 rw[a];show I2c (.ref _) _ (I.lnew (r.append R) (by rw[ye];omega)) rfl<|q _ I.fresh
end _L
namespace Att
open PySem PySem.W PySem.Calls PyProof.Rows
variable{P:Params}{h:jo}
def wW:∀(s:YV 0)(v:YX 0),WellAll P h v (s.map WData.int)->IntsAre v s:=by
 intro s
 induction s with
 |nil=>
  intro v w;cases w
  show .nil
 |cons n s i=>
  intro v w;cases w with
  |cons a b=>
   cases a
   show .cons _ _<|i _ b
variable{args:k_ WData}{l:OpenLaw}{n:Nat}{vals:YX 0}
def Hy(N:l.most=a8 n)(p:l.row.toRowW.claim.pre args=true)(w:WellAll P h vals args):
  ∃a v s,vals=[yg a]/\args=[WData.list<|s.map WData.int]/\YC 0=a8 {cls:=.type "list",data:=.seq v.toArray}/\IntsAre v s/\s.l<=n:=by
 let c:l.pre.holds [] { args:=args}=true:=(pre_splitW p).2;let(d,r,rfl,x,u):=hasAllW_cons<|(pre_splitW p).1;obtain rfl:=hasAllW_nil u;let(X,rfl,t):=hasW_list x;let(s,rfl):=items_int t;let e:s.l<=n:=by
  let z:(WTm.not<|.lt (.lit<|.int (n:Int))<|.len<|.arg 0).holds [] { args:=[.list<|s.map .int]}=true:=by let z:=(holds_andW c).1;rw[N]at z;show z
  let y:=condW_of z<|w_not<|w_lt w_lit<|w_len_list<|w_arg rfl;show Nat.le_of_not_lt λq=>?_
  first
   |(rw[decide_eq_true q']at y;show absurd y<|by decide)
   |(simp at y;omega)
 cases w with
 |cons W m=>
  cases m
  cases W with
  |list o H=>exact⟨_,_,s,rfl,rfl,o,wW s _ H,e⟩
def Hz(l:OpenLaw)(args:k_ WData):l.row.toRowW.claim.post args (.bool true) args=true:=
 postW_of
  (show WShape.has [] (.bool true) .bool=true by first|rfl|decide|simp[WShape.has])
  (show(WTm.eq .res<|.lit<|.bool true).value [] { args:=args,res:=a8<|.bool true,after:=args}=a8 (.bool<|true == true) from w_eq_bool (w_res rfl) w_lit) rfl
variable{XP:(d9 0)->jo->Prop}{YP:j2->jo->Prop}{loose:S2 0}
def attach_call{q:j3}{d:DefRec}(hn:l.most=a8 n)(ig:d.params.defaults=[])(call:∀(w:j2)(s₀ s₁:g_)(mg mb:d9 0)(fa:h_)(o:Obj)(pm cd doc:gV)(a:h_)(vs:YX 0)(ns:YV 0),
   Ground q loose [] XP w s₀ mg mb s₁.heap->YP w s₁.heap->
   s₁.heap.get? fa=a8 o->o.data=.func (docDef d.name d.params d.body d.scope pm cd doc)->s₁.heap.CodeRec cd d.name->mg d.name=a_ fa->
   s₁.heap.get? a=a8 {cls:=.type "list",data:=.seq vs.toArray}->βt 0->ns.l<=n->s₁.gens=#[]->
   codeAny (model l.prog w) callerA (.call (.ref fa) ⟨[.ref a],[]⟩) (λr s'=>r=.ok (.ret (.bool true))/\γp 0/\s'.os=s₁.os/\αr 0) s₁):
  WalkO q loose XP YP l.row.toRowW d [] (λf vs=>PySem.call f vs):=by
 intro w s₀ s₁ mg mb G Y fa o pm cd doc dV kV ho hd ic hD hmg hg args vals as hpre hlay hrd hwl hlo;obtain rfl:dV=.none:=Dflts.none hD ig;obtain rfl:kV=.none:=Dflts.noKw hD;let(a,vs,ns,rfl,rfl,f9,hints,hlen):=Hy hn hpre hwl;show enter_call<|XA (call w s₀ s₁ mg mb fa o pm cd doc a vs ns G Y ho (fd_plain hd) ic hmg f9 hints hlen hg) λr s' hq=>?_;let(rfl,h2,h3,h4):=hq;show(.inl ⟨.bool true,.bool true,[],rfl,λ_=>rfl,.bool true,Hz l _,λ_=>⟨Xo,λ_ hm=>(nomatch hm)⟩⟩,h2,h3,h4)
end Att
namespace _L
def Bi:∀{vs:YX 0}{ns:YV 0},βt 0->aO (ZF 0) vs
 |_,_,.nil=>.nil
 |_,_,.cons n t h=>.cons ⟨t,rfl⟩ (Bi h)
abbrev Jc(H:Hp):Prop:=∀b,H b=a9\/∃o xs,H b=a8 (.frz o<|.lst xs)
variable{CX:CXT}{K:vj}{P:j3}{a:h_}{fd:zy}{mg:d9 0}{ns:YV 0}{sp:Sp}{s₁:g_}{vs:YX 0}{w:j2}{x:Str}
def Jd{mb:d9 0}{k:Nat}{fa:h_}(KX:K.In s₁.heap)(m6:s₁.heap.Ns y8 mg)(hb:s₁.heap.Ns builtinsNs mb)(r4:∀x:Str,x≠"__name__" -> mb x=Wj x)(lu:s₁.heap.NoLimit)(hg:s₁.gens=#[])(ha:s₁.heap.get? a=a8 {cls:=.type "list",data:=.seq vs.toArray})(hi:βt 0)(hl:ns.l<=wa)(hr:eD k callerA)(F:∀base:jo,K.In base->εN mg->XW CX k fa fd [x] sp)(iz:∀(s:g_)(u:gV),βr ⟨[u],[]⟩ [(x,u)])(gz:∀H:Hp,Jc H->Yu a (ZF 0)->sp [.ref a] H (λv _=>v=.bl true) λ_ _ _=>False)(jq:∀H e s',CX [] H s₁ (λ_ _ _=>False) e s'->False):
  codeAny (model P w) callerA (.call (.ref fa) ⟨[.ref a],[]⟩) (λr s'=>r=.ok (.ret<|.bool true)/\γp 0/\s'.os=s₁.os/\αr 0) s₁:=by
 let rv:=Bi hi;let jm:=hi.l
 -- from an abstract heap in which nothing but the script may be tracked
 let core:∀H:Hp,Jc H->Yu a (ZF 0)->X8 s₁.heap->(∀b,H b≠a9->b=a)->(H a≠a9->δc 0=a9)->
   codeAny (model P w) callerA (.call (.ref fa) ⟨[.ref a],[]⟩) (λr s'=>r=.ok (.ret<|.bool true)/\γp 0/\s'.os=s₁.os/\αr 0) s₁:=by
  intro H hO hS hok hA hK;let cf:∀{b:h_}{o:Obj},s₁.heap.get? b=a8 o->H b=a9->(βu H).get? b=a8 o:=λe n=>IQ e n;let ue:∀{b:h_}{o:Obj}{es:ε8 0}{ep:Nat},s₁.heap.get? b=a8 o->o.data=.dict es ep->H b=a9:=λ{b o es ep} e d=>by
   cases q:H b with
   |none=>rfl
   |some u=>
    let e':b=a:=hA b (by rw[q];simp);subst e';rw[ha]at e;exists e;let d':Data.seq vs.toArray _=Data.dict es ep:=d
    exists d'
  let i9:∀{b:h_}{m:d9 0},s₁.heap.Ns b m->(βu H).Ns b m:=λ{b m} z0=>E3c z0 λo es ep e d r=>I3c o es ep (cf e (ue e d)) d r;let pd:K.In (βu H):=λb o e=>cf (KX b o e) (by
   cases q:H b with
   |none=>rfl
   |some u=>have e':b=a:=hA b (by rw[q];simp);subst e';rw[hK (by rw[q];simp)]at e;exists e)
  let hM:Mod K mg (βu H):=⟨pd,i9 m6,(I1b mb (i9 hb) r4),let ⟨mc,h1,h2⟩:=lu;(I1b mc (i9 h1) h2)⟩;let e0:yJ P w K mg (βu H) callerA [] s₁ H:=⟨rfl,hM,λb o e=>LW e,WR<|Hl _ _,trivial,λb hb=>absurd (show b∈([]:k_ h_) from hb) (by simp),hok,.of_eq hg⟩
  show XA ((F _ pd<|i9 m6).run callerA [] s₁ H ⟨[.ref a],[]⟩ [.ref a] [.ref a] _ _ hr e0 (iz s₁<|.ref a) (.cons rfl .nil)<|gz H hO hS) λr s' h=>?_;cases r with
  |error e=>exact(jq H e s' h).elim
  |ok fl=>
   cases fl with
   |next=>exact zb h
   |brk=>exact zb h
   |cont=>exact zb h
   |ret u=>
    let(v,H',(os),bare,un,mn,r',q):=h;let q':v=.bl true:=q;subst q';obtain rfl:u=Value.bool true:=r';show I0d rfl (OldK.of_keep λb o e=>?_) os bare;cases q:H b with
    |none=>exact un.keep b o e q (by intro z;show absurd (show b∈([]:k_ h_) from z) (by simp)) (by simp)
    |some u=>
     rcases hO b with z|⟨ob,xs,z⟩
     ·rw[q]at z;exists z
     ·let z2:=un.frzs b ob _ z;let(e1,_):=hok b _ z;let(e2,_):=mn b _ z2;rw[e]at e1;exists e1;show e2
 cases hk:δc 0 with
 |some o=>
  -- the script is one of the module's own objects
  let e:=KX a o hk;rw[ha]at e
  exists e
  show core (λ_=>a9) (λ_=>.inl rfl) (.inr<|I3f _ vs.toArray _ hk rfl rfl rfl (by rw[v9,jm];show hl)<|d0 rv) (λb u z=>by let z':(a9:l7 HO)=a8 u:=z;exists z') (λb z=>absurd rfl z) λz=>absurd rfl z
 |none=>
  show core (λb=>if b=a then a8 (.frz {cls:=.type "list",data:=.seq vs.toArray}<|.lst<|ns.map V.int) else a9) (λb=>?_) (.inl<|.inr ⟨{cls:=.type "list",data:=.seq vs.toArray},if_pos rfl⟩) (λb u z=>?_) (λb z=>?_) λ_=>hk
  ·by_cases hb:b=a
   ·show .inr ⟨_,_,if_pos hb⟩
   ·show .inl (if_neg hb)
  ·by_cases hb:b=a
   ·let z':=(if_pos hb).symm.trans z;cases z'
    subst hb;show(ha,by rw[vn];show hl,vs,_,rv,ha)
   ·let z':=(if_neg hb).symm.trans z
    exists z'
  ·by_cases hb:b=a
   ·show hb
   ·show absurd (if_neg hb) z
variable{XP:(d9 0)->jo->Prop}{YP:j2->jo->Prop}{l:PySem.W.OpenLaw}{loose:S2 0}{n:Nat}
def walk_of{k:Nat}{q:j3}{d:DefRec}{K:Params->vj}{CX:j2->CXT}{sp:j2->Sp}(hn:l.most=a8 n)(qx:n<=wa)(ig:d.params.defaults=[])(hr:eD k callerA)(hY:∀(w:j2)(h:jo),YP w h->(αT 0).In h)(F:∀(w:j2)(mg:d9 0)(fa:h_)(h:jo),(αT 0).In h->h.Ns y8 mg->mg d.name=a_ fa->
   ∃fd:zy,(∀(s:g_)(u:gV),βr ⟨[u],[]⟩ [(x,u)])/\
    ∀base:jo,(αT 0).In base->εN mg->cX l.prog w (αT 0) mg base (CX w) k fa fd [x] (sp w))(gz:∀(w:j2)(H:Hp)(a:h_)(ns:YV 0),ns.l<=n->Jc H->SqL (αT 0) H a (ZF 0)->sp w [.ref a] H (λv _=>v=.bl true) λ_ _ _=>False)(jq:∀(w:j2)(H:Hp)(s:g_)(e:gV)(s':g_),CX w [] H s (λ_ _ _=>False) e s'->False):
  βc [] (λf vs=>PySem.call f vs):=by
 show Att.attach_call hn ig λw s₀ s₁ mg mb fa o pm cd doc a vs ns G Y ho hd ic hmg f9 hints hlen hg=>?_;let KX:=hY w _ Y;let(fd,(hb),hF):=F w mg fa _ KX G.T.g hmg;show Jd KX G.T.g G.T.b G.T.builtins G.T.nolimit hg f9 hints (vz hlen qx) hr hF hb (λH hO hS=>gz w H a ns hlen hO hS) λH e s'=>jq w H s₁ e s'
abbrev inClass(s:ko)(j:Nat):ko:=match s with
 |.ClassDef _ _ _ body _ _ _ _ _ _ _=>body.getD j (.Pass ⟨0,0,0,0⟩)
 |_=>.Pass ⟨0,0,0,0⟩
abbrev eI(s:ko):Arguments:=match s with
 |.FunctionDef _ a _ _ _ _ _ _ _ _=>a
 |_=>{ posonlyargs:=[],args:=[],vararg:=a9,kwonlyargs:=[],kw_defaults:=[],kwarg:=a9,defaults:=[]}
abbrev bV(s:ko):k_ ko:=match s with
 |.FunctionDef _ _ b _ _ _ _ _ _ _=>b
 |_=>[]
abbrev aM(s:ko):Scope:=match s with
 |.FunctionDef _ _ _ _ _ _ sc _ _ _=>sc
 |_=>{ kind:=.function,names:=[],isGenerator:=false,isCoroutine:=false}
@[reducible]def CX0:CXT:=λ_ _ _ _ _ _=>False
@[reducible]def E0:XK:=λ_ _ _=>False
variable{X:Cx}
def Bj:rJ CX0 X E0:=λ_ _ _ _ _ _ _ h=>h.elim
structure Fun(K:vj)(x qual:Str)(st:ko)(f:h_)(fd:zy):Prop where
 ex:∃(oc:gV)(od:l7 h_)(kV doc pm:gV)(an:l7 h_)(cdv ct:gV)(osl:d8 0),
  fd=Vu x qual (eI st) (bV st) (aM st) .none kV doc pm an cdv ct/\K.lookup f=some ⟨oc,od,.func fd,osl⟩/\XN K cdv qual=true
 kp:Vi K (.ref f)=true
variable{N ps:S2 0}{base:jo}{qual:Str}{st:ko}
def Fun.ok{f:h_}{k:Nat}(F:αL fd)(S:ε7 (aM st))(len:∀vs H Q E,sp vs H Q E->vs.l=ps.l)(il:∀(cdv:gV)(A:i_)(outer:k_ Env)(s:g_)(H:Hp)(vs:k_ V)(Q:VK)(E:XK),eD k (A.deeper (envOfC qual (aM st) (b7 s) f cdv))->sp vs H Q E->
   ∃t,PSs (Y0 qual (aM st) f cdv A outer s H E).nox (bV st) t/\t { nx:=λ_ H'=>Q .non H',rt:=Q} (start N vs) H):XW CX0 (k+1) f fd ps sp:=by
 let(oc,od,kV,doc,pm,an,cdv,ct,osl,(z0),lk,ic):=F.ex;subst z0;show Od lk ic S len λA outer s H vs Q E hr gz=>?_;let(t,(h),q):=il cdv A outer s H vs Q E hr gz;show I1b t h.nox q
def Fun.binds{f:h_}(F:αL fd)(h:∀(kV doc pm:gV)(an:l7 h_)(cdv ct:gV)(us:YX 0),us.l=ps.l->bindArgs (Vu x qual (eI st) (bV st) (aM st) .none kV doc pm an cdv ct) ⟨us,[]⟩=pure (ps.zip us)):Binds K fd ps []:=by let(oc,od,kV,doc,pm,an,cdv,ct,osl,(z0),lk,ic):=F.ex;subst z0;show .all<|h kV doc pm an cdv ct
variable{an:l7 h_}{cdv ct doc pm:gV}{osl:d8 0}
def C4{f:h_}{oc:gV}{od:l7 h_}{kV:gV}(l:K.lookup f=a8 ⟨oc,od,.func<|Vu x qual (eI st) (bV st) (aM st) .none kV doc pm an cdv ct,osl⟩)(c:XN K cdv qual=true)(k:Vi K (.ref f)=true):αL (Vu x qual (eI st) (bV st) (aM st) .none kV doc pm an cdv ct):=⟨(I9c oc od kV doc pm an cdv ct osl rfl l c),k⟩
variable{A:i_}
def RA{k:Nat}(h:eD k A):A.units+1<cLine:=y3 (Nat.add_le_add_left (by decide:1<=64) _) h.units
def qF(h:n<=1000):n<wa:=y3 h (by decide)
variable{B:Prop}
def CZ{A:Prop}(h:B):if false=true then A else B:=by show h
def D3{A:Prop}(h:A):if true=true then A else B:=by show h
abbrev wX(H H':Hp):Prop:=∀b o,H b=a8 o->H' b=a8 o
variable{u:gV}
section
variable{κ:Type}[αg 0]
abbrev oA(kvs:k_ (κ×V))(k:κ):l7 V:=(kvs.find? λkv=>decide (kv.1=k)).map (·.2)
abbrev putK(kvs:k_ (κ×V))(k:κ)(v:V):k_ (κ×V):=if(kvs.any λkv=>decide (kv.1=k))=true then kvs.map (λkv=>if kv.1=k then(kv.1,v) else kv) else kvs++[(k,v)]
def tD{p:κ×V}{r:k_ (κ×V)}{k:κ}(e:p.1=k):oA (p::r) k=a8 p.2:=by simp[oA,e]
def tF{p:κ×V}{r:k_ (κ×V)}{k:κ}(e:¬ p.1=k):oA (p::r) k=oA r k:=by simp[oA,e]
def yM(k:κ):∀v,(v.any λK=>decide (K.1=k))=(oA v k).isSome
 |[]=>rfl
 |p::r=>by
  rw[List.any_cons];by_cases e:p.1=k
  ·simp[tD e,decide_eq_true e]
  ·rw[tF e,εZ 0];show yM k r
def jP(kvs)(k:κ)(v:V):(γW v).length<=kvs.l+1:=by
 unfold putK;split
 ·rw[vn];omega
 ·rw[ye,yz,List.length_nil];omega
def oD.isSome_eq{o:l7 V}{u:l7 gV}(r:oD o u):o.isSome=u.isSome:=by
 cases o with
 |none=>cases u with
  |none=>rfl
  |some _=>exact(r).elim
 |some _=>cases u with
  |none=>exact(r).elim
  |some _=>rfl
def oD.getD{o:l7 V}{u:l7 gV}{d:V}{d':gV}(r:oD o u)(R:RelV d d'):RelV (o.getD d) (u.getD d'):=by
 cases o with
 |none=>cases u with
  |none=>exact R
  |some _=>exact(r).elim
 |some _=>cases u with
  |none=>exact(r).elim
  |some _=>exact r
def KV.val{kvs:k_ (κ×V)}{vs:k_ (κ×gV)}(r:βX vs)(k:κ):oD (oA kvs k) (valueAt vs k):=by
 induction r with
 |nil=>exact Vt
 | @cons p q P s h t i=>
  let(H,y):=h;by_cases e:p.1=k
  ·let E:=H.symm.trans e;let b:valueAt (q::s) k=a8 q.2:=by simp[valueAt,E]
   rw[tD e,b];show y
  ·let E:¬ q.1=k:=λz=>e<|H.trans z;let b:valueAt (q::s) k=valueAt s k:=by simp[valueAt,E]
   rw[tF e,b];show i
def KV.any{kvs:k_ (κ×V)}{vs:k_ (κ×gV)}(r:βX vs)(k:κ):(kvs.any λv=>decide (v.1=k))=vs.any λv=>decide (v.1=k):=by
 induction r with
 |nil=>rfl
 |cons h t i=>rw[List.any_cons,List.any_cons,i,h.1]
def KV.repl{kvs:k_ (κ×V)}{vs:k_ (κ×gV)}(r:βX vs)(k:κ){y:V}(R:X_ u):
  KV (kvs.map λv=>if v.1=k then(v.1,y) else v) (vs.map λv=>if v.1=k then(v.1,u) else v):=by
 induction r with
 |nil=>exact .nil
 | @cons p q s Q h t i=>
  rw[wq,wq];show .cons ?_ i;let(H,x):=h;by_cases e:p.1=k
  ·rw[αU 0,if_pos<|H.symm.trans e];show(H,R)
  ·rw[Z4 0,if_neg<|λz=>e<|H.trans z];show(H,x)
def KV.put{kvs:k_ (κ×V)}{vs:k_ (κ×gV)}(r:βX vs)(k:κ){y:V}(R:X_ u):KV (γW y) (stored vs k u):=by
 unfold putK stored;rw[r.any k];by_cases e:(vs.any λv=>decide (v.1=k))=true
 ·rw[αU 0,αU 0];show r.repl k R
 ·rw[Z4 0,Z4 0];show γq ⟨rfl,R⟩
def KV.length{kvs:k_ (κ×V)}{vs:k_ (κ×gV)}(r:βX vs):kvs.l=vs.l:=yr r
end
def tG{k:Key}(r:RelV (kV k) u):(bH P w).is k u=true:=by
 cases k with
 |inl i=>let⟨t,e⟩:=(r);subst e;show CQ P w i t
 |inr x=>let⟨t,e⟩:=(r);subst e;show vY P w x t
def Bk{P:j3}{w:j2}:∀{ks:γ7 0}{us:YX 0},aO (ks.map kV) us->ItemsAre (bH P w) ks us
 |[],_,r=>by rw[List.map_nil]at r;cases r;show .nil
 |k::ks,_,r=>by
  cases r with
  |cons h t=>exact .cons (tG h)<|Bk t
@[reducible]def KT(H:Hp):k_ (γ7 0×V)->k_ (γ7 0×h_×gV)->Prop:=Paired λp q=>p.1=q.1/\H q.2.1=a8 (.tup<|p.1.map kV)/\RelV p.2 q.2.2
variable{H:Hp}
def KT.val{kvs:k_ (γ7 0×V)}{xs:k_ (γ7 0×h_×gV)}(r:δo xs)(k):oD (oA kvs k) ((αY k).map (·.2)):=by
 induction r with
 |nil=>exact Vt
 | @cons p q P s h t i=>
  let((y),_,x):=h;by_cases e:p.1=k
  ·let E:=y.symm.trans e;let b:atKey (q::s) k=a8 q.2:=by simp[atKey,E]
   rw[tD e,b];show x
  ·let E:¬ q.1=k:=λz=>e<|y.trans z;let b:atKey (q::s) k=atKey s k:=by simp[atKey,E]
   rw[tF e,b];show i
def KT.repl{kvs:k_ (γ7 0×V)}{xs:k_ (γ7 0×h_×gV)}(r:δo xs)(k){y:V}(R:X_ u):
  KT H (kvs.map λv=>if v.1=k then(v.1,y) else v) (xs.map<|putAt k u):=by
 induction r with
 |nil=>exact .nil
 | @cons p q P Q h t i=>
  rw[wq];show .cons ?_ i;let((x),w,s):=h;unfold putAt;by_cases e:p.1=k
  ·rw[αU 0,if_pos<|x.symm.trans e];show(x,w,R)
  ·rw[Z4 0,if_neg<|λz=>e<|x.trans z];show(x,w,s)
def KT.put{kvs:k_ (γ7 0×V)}{xs:k_ (γ7 0×h_×gV)}(r:δo xs)(k){b:h_}{y:V}(hb:H b=a8 (.tup<|k.map kV))(R:X_ u):
  KT H (γW y) (storedH xs k b u):=by
 let e:(kvs.any λv=>decide (v.1=k))=(αY k).isSome:=by rw[yM,(r.val k).isSome_eq,Vv]
 unfold putK storedH;rw[e];by_cases q:(αY k).isSome=true
 ·rw[if_pos q,if_pos q];show r.repl k R
 ·rw[if_neg q,if_neg q];show γq ⟨rfl,hb,R⟩
variable{H':Hp}
def KT.keeps{kvs:k_ (γ7 0×V)}{xs:k_ (γ7 0×h_×gV)}(r:δo xs)(h:∀b y,H b=a8 (.tup y)->H' b=a8 (.tup y)):KT H' kvs xs:=αE 0 λ_ _ z=>⟨z.1,εB z.2.1,z.2.2⟩
def Of{h:jo}{u:HO}(ok:X8 h)(e:γm u):Yj u:=e.ok ok
def wC{h:jo}{kvs:k_ (Key×V)}(o:X8 h)(e:γm (.dK kvs)):kvs.l<=wa/\(a == zx)=false/\∃v,βX v/\h.DictOf (bH P w) a v:=show Yj _ from Of o e
def yN{h:jo}{kvs:k_ (Key×V)}(o:X8 h)(e:H a=a8 (.dK kvs)):kvs.l<=wa/\(a == zx)=false/\∃v,βX v/\h.DictOf (bH P w) a v:=wC o<|.inl e
def uV{h:jo}{ks:γ7 0}(k:X8 h)(e:H a=a8 (.tup<|ks.map kV)):(tupleKind<|bH P w).is h ks a:=by
 let(_,i,r,o,z,y,(n,x),_):=(show Yj (.tup _) from k a _ e)
 show I3d o i.toArray n z y x (by simpa using Bk r)
def Bl{h:jo}{kvs:k_ (γ7 0×V)}(k:X8 h)(e:γm (.dT kvs)):kvs.l<=wa/\(a == zx)=false/\
  ∃s,δo s/\h.DictOfH (tupleKind<|bH P w) a s:=by
 let(z,y,s,r,o,S,E,v,u,n,j,i):=(show Yj _ from Of k e)
 show(z,y,s,r,o,S,E,v,u,n,j,λx X=>?_,i);let A:∀{l:k_ _}{m:k_ _},KT H l m->∀x∈m,(tupleKind<|bH P w).is h x.1 x.2.1:=by
  intro l m q
  induction q with
  |nil=>intro x X;show nomatch X
  | @cons p q g f Q t I=>
   intro x X;rcases v8.mp X with e|X
   ·subst e;show uV k (by rw[<-Q.1];show Q.2.1)
   ·show I x X
 show A r x X
def RB{h:jo}{kvs:k_ (γ7 0×V)}(o:X8 h)(e:H a=a8 (.dT kvs)):kvs.l<=wa/\(a == zx)=false/\
  ∃x,δo x/\h.DictOfH (tupleKind<|bH P w) a x:=Bl o<|.inl e
abbrev wY(H:Hp)(a:h_)(y:V)(r:l7 V):Prop:=(∃kvs k,γm (.dK kvs)/\y=kV k/\r=oA kvs k)\/∃kvs k b,γm (.dT kvs)/\y=.ref b/\H b=a8 (.tup<|k.map kV)/\r=oA kvs k
abbrev Pl(H:Hp)(a:h_)(y v:V)(H':Hp):Prop:=
 (∃kvs k,H a=a8 (.dK kvs)/\y=kV k/\kvs.l<wa/\H'=Zt (.dK<|putK kvs k v))\/
 ∃kvs k b,H a=a8 (.dT kvs)/\y=.ref b/\H b=a8 (.tup<|k.map kV)/\kvs.l<wa/\H'=Zt (.dT<|putK kvs k v)
def wY.k{H:Hp}{a:h_}{kvs:k_ (Key×V)}{k:Key}(e:H a=a8 (.dK kvs)):εO (kV k) (oA kvs k):=.inl<|I2c kvs k (.inl e) rfl rfl
def Pl.k{H:Hp}{a:h_}{kvs:k_ (Key×V)}{k:Key}{v:V}(e:H a=a8 (.dK kvs))(h:kvs.l<wa):Pl H a (kV k) v (Zt<|.dK<|putK kvs k v):=.inl<|I2d kvs k e rfl h rfl
variable{c6:b_ 0}{s:g_}{E Q:b9 0}{h':jo}{t':Nat}
section
variable{σ:St}{y v:V}{r:gV}{o:l7 V}
def Inv.big(I:u_ s):zx<(b7 s):=by show Xd (by decide)<|(γS 0).lt
def HA(U:A.units+1<cLine)(I:u_ s)(g:εO y (a8 v))(t:X_ u)(h:∀W S,u_ S->Yi W->Q W S):
  wpAny (c3 X) A (getItem (.ref a) u) Q E s:=by
 rcases g with⟨K,k,e,Y,l⟩|⟨K,k,b,e,Y,B,l⟩
 ·subst Y;let(z,D,V,r,d):=γr e;let(W,(x),R):=(oD.some_of (by rw[l];show r.val k));show wpAny_getItem_of (tG t) d.mapOf x<|h W _ (YT 0) R
 ·subst Y;cases(t)
  let(z,D,o,r,d):=ε9 e;let(W,(x),R):=(oD.some_of (by rw[l];show r.val k));let(p,(q),P):=w8.mp x;show wpAny_getItem_heap (W9 U) (ζa B) d q ?_;rw[P];show h W _ (YT 0) R
def Uq(U:A.units+1<cLine)(I:u_ s)(g:εO y o)(R:X_ u)(h:∀S,u_ S->Q (.bool o.isSome) S):
  wpAny (c3 X) A (za .In u<|.ref a) Q E s:=by
 rcases g with⟨v,k,e,Y,l⟩|⟨v,k,b,e,Y,B,l⟩
 ·subst Y;let(z,D,V,r,d):=γr e;show wpAny_in_of (tG R) D d.mapOf ?_;rw[<-(r.val k).isSome_eq,<-l];show h _<|I.tok _
 ·subst Y;cases(R)
  let(z,D,x,r,d):=ε9 e;show wpAny_in_heap (W9 U) (ζa B) D d ?_;let q:=(r.val k).isSome_eq;rw[Vv]at q;rw[<-q,<-l];show h _<|I.tok _
def Mr(U:A.units+1<cLine)(I:u_ s)(g:εO y o)(x:X_ u)(h:∀S,u_ S->Q (.bool<|!o.isSome) S):
  wpAny (c3 X) A (za .NotIn u<|.ref a) Q E s:=by
 rcases g with⟨K,k,e,Y,l⟩|⟨K,k,b,e,Y,B,l⟩
 ·subst Y;let(z,D,V,R,d):=γr e;show wpAny_notIn_of (tG x) D d.mapOf ?_;rw[<-(R.val k).isSome_eq,<-l];show h _<|I.tok _
 ·subst Y;cases(x)
  let(z,D,t,R,d):=ε9 e;show wpAny_notIn_heap (W9 U) (ζa B) D d ?_;let q:=(R.val k).isSome_eq;rw[Vv]at q;rw[<-q,<-l];show h _<|I.tok _
def tH{ob:HO}(I:u_ s)(m:Mut (H a))(S:VJ a s.heap h')(e:∃q,ε0 0=a8 q)(n:αe (Zt ob) h' a ob):
  c8 (Zt ob) {s with heap:=h',toks:=t'}:=
 I.write m (.inl rfl) (λb q h z=>(S.2 b h).trans z) e n
def yO{kvs:k_ (Key×V)}{vs:k_ (Key×gV)}(z:kvs.l<=wa)(h:(a == zx)=false)(e:βX vs)(d:h'.DictOf (bH P w) a vs):
  bS P w H' h' a (.dK kvs):=⟨z,h,vs,e,d⟩
def HB{Q:εt 0}(hu:A.units+1<cLine)(I:u_ s)(g:Pl H a y v H')(ry:X_ u)(rv:Yi r)(h:∀s',εe s'->Q () s'):
  wpAny (c3 X) A (setItem (.ref a) u r) Q E s:=by
 rcases g with⟨kvs,k,e,ey,l,eH⟩|⟨kvs,k,b,e,ey,eb,l,eH⟩
 ·subst ey eH;let(z,hd,vs,rel,dd):=γs e;let hz:vs.l<=wa:=by rw[<-rel.length];show z
  let hl:(γW v).length<=wa:=by have:=jP kvs k v;omega
  show wpAny_setItem_pairs (hsz:=hz) (tG ry) dd λh' du hs=>h _ ?_;let he:∃q,ε0 0=a8 q:=let ⟨q,_,_,hq,_⟩:=du;⟨q,hq⟩;show tH I (by rw[e];show Vt) hs he<|yO hl hd (rel.put k rv) du
 ·subst ey eH;cases(show u=yg b from ry)
  let(z,hd,xs,rel,dd):=RB I.hok e;let hz:xs.l<=wa:=by rw[<-yr rel];show z
  let hl:(γW v).length<=wa:=by have:=jP kvs k v;omega
  show wpAny_setItem_heap (hsz:=hz) (W9 hu) (ζa eb) dd λh' du hs=>h _ ?_;let(q,es,ep,(hq),h2,h3,h4,_,h5):=du;show tH I (by rw[e];show Vt) hs ⟨q,hq⟩ ⟨hl,hd,_,(rel.put k eb rv).keeps λc ys ec=>?_,q,es,ep,hq,h2,h3,h4,h5⟩;rw[aG<|Ra ec e<|λz=>nomatch z];show ec
end
section
variable{σ:St}{kvs:k_ (Key×V)}{k:Key}
def RC(I:u_ s)(e:γm (.dK kvs))(h:∀t s',u_ s'->Q (.int kvs.l t) s'):wpAny (c3 X) A (call (.builtin "len") [.ref a]) Q E s:=by let(z,hd,vs,rel,dd):=γr e;show call_len_dict hd dd (by rw[<-rel.length];rw[yt]at z;omega) ?_;rw[<-rel.length];show εB<|I.tok _
end
def D5{σ:St}{y:V}{o:l7 V}(I:u_ s)(g:εO y o):s.TypeIs (.ref a) "dict" := by
 rcases g with⟨v,k,e,_,_⟩|⟨v,k,b,e,_,_,_⟩
 ·let(_,_,S,_,d):=γr e;show d.typeIs
 ·let(_,_,x,_,d):=ε9 e;show d.typeIs
def yP(h:jo)(hb:zx<h.objs.size):bS P w H (h.push {cls:=.type "dict",data:=.dict #[]}) h.objs.size (.dK []):=⟨w6 _,beq_eq_false_iff_ne.mpr<|xy<|wc hb,[],.nil,Heap.DictOf.new h⟩
abbrev Pm:TE:=λ_ H Q=>∀p,H p=a9->Q (.ref p) (x_ p<|.dK [])
variable{pos:Pos}
def Je:V_ (.Dict [] [] pos) Pm:=λp s z H Q I h=>wpAny_Dict_empty<|I2c (.ref<|b7 s) _ (I.laid (λ_ _ q=>X4 q) (vk _)<|yP s.heap I.big) rfl<|h _<|I.hok.fresh<|vk _
abbrev yQ(kvs more:k_ (Key×V)):k_ (Key×V):=more.foldl (λacc kv=>putK acc kv.1 kv.2) kvs
def KV.merge:∀{more:k_ (Key×V)}{rs:k_ (Key×gV)}{kvs:k_ (Key×V)}{vs:k_ (Key×gV)},KV more rs->βX vs->KV (yQ kvs more) (merged vs rs):=by
 intro more rs kvs vs r
 induction r generalizing kvs vs with
 |nil=>intro q;show q
 | @cons p q s Q h t i=>
  intro R;let e:KV (putK kvs p.1 p.2) (stored vs q.1 q.2):=by have:=R.put p.1 h.2;rw[<-h.1];show this
  show i e
def qT:∀(more k:k_ (Key×V)),(yQ k more).length<=k.l+more.l
 |[],k=>by change k.l<=k.l+0;omega
 |p::r,k=>by
  let h:=qT r<|putK k p.1 p.2;let H:=jP k p.1 p.2
  change(yQ (putK k p.1 p.2) r).length<=_
  rw[yz];omega
section
variable{σ:St}{y d:V}{r:gV}{o:l7 V}
def Pn(hu:A.units+1<cLine)(I:u_ s)(g:εO y o)(ry:X_ u)(rd:RelV d r)(h:∀w' s',u_ s'->RelV (o.getD d) w'->Q w' s'):
  wpAny (c3 X) A (call (.builtin "dict.get") [.ref a,u,r]) Q E s:=by
 rcases g with⟨kvs,k,e,ey,l⟩|⟨kvs,k,b,e,ey,eb,l⟩
 ·subst ey;let(z,hd,vs,rel,dd):=γr e;show αx (δF _) (meets_dict_get_default (γT 0) a (tG ry) hd r)<|I1b _ dd.mapOf<|h _ _ (YT 0) ?_;rw[l];show(rel.val k).getD rd
 ·subst ey;cases(show u=yg b from ry)
  let(z,hd,xs,rel,dd):=ε9 e;show αx (δF _) (meetsH_dict_get_default (tupleKind<|bH X.prog X.w) a b hd r) ⟨W9 hu,k,xs,ζa eb,dd,εB (YT 0) ?_⟩;rw[l];show(rel.val k).getD rd
end
section
variable{σ:St}{kvs:k_ (Key×V)}
def Jf(I:u_ s)(e:γm (.dK kvs))(h:∀p S,H p=a9->c8 (x_ p<|.dK kvs) S->Q (.ref p) S):wpAny (c3 X) A (call (.type "dict") [.ref a]) Q E s:=by let(z,x,V,r,D):=γr e;show kt_call_dict x D (by rw[<-r.length];show z) λu d v=>?_;show εB (I.hok.fresh<|vk _)<|I.laid (λb q y=>?_) (vk _)<|yO z (beq_eq_false_iff_ne.mpr<|xy<|wc I.big) r d;show(v.2 b<|wc<|vy y).trans (X4 y)
end
def HC:δA (.builtin "len") (λxs H Q=>∃a kvs,xs=[V.ref a]/\H a=a8 (.dK kvs)/\Q (.int kvs.l) H):=by intro c6 s σ H xs us Q I r h;let(a,kvs,(z0),ha,q):=h;subst z0;let(u,rfl,ru):=εw 0;subst ru;show RC I (.inl ha) λt s' I'=>I2c (.int kvs.l) H I' ⟨t,rfl⟩ q
abbrev Gc(ifs:k_ j_)(env:Env):Sem Bool:=forIn ifs true λc r=>if r=true then do let ok <-isTrue c env (eval c env);pure (ForInStep.yield ok) else pure (ForInStep.yield r)
variable{E':b9 0}{R:c9 Result}{env:Env}{ifs:k_ j_}{iter:j_}{prog:j3}{scope:Scope}
def AV{elt target:j_}{it acc:gV}(E:∀x e,E' x e->notedBy (L_ w) A env (λx f=>R (.error x) f) x e)(I:c9 Nat)(T:∀n s,I n s->l_ (pyNext it) (λr S=>match r with
   |none=>R (.ok .next) S
   | some v=>l_ (letOwnedTupleGo target it v) (fun _ z=>l_ (assign target env v) (fun _ p=>
     l_ (Gc ifs env) (λO y=>
      if O=true then d6 prog w A (eval elt env) (λx o=>l_ (call (.builtin "list.append") [acc,x]) (λ_ l=>∃m,m<n/\I m l) E' o) E' y
      else ∃m,m<n/\I m y) E' p) E' z) E' S) E' s)(n)(h:I n s):
  codeAny (L_ w) A (.compLoop (.ListComp elt [⟨target,iter,ifs,0⟩] scope pos) 0 it acc env) R s:=by
 show codeAny_loop rfl I (λn s d=>?_) n h;show wpAny_noted<|zh (?_:αG A (compTurn _ 0 it acc env) _ E' s) (λ_ _ q=>q) E;rw[compTurn_list];show eg<|wpAny_standAt<|eg<|zh (T n s d) (λr S u=>?_) λ_ _ H=>H;cases r with
 |none=>exact vh u
 |some v=>
  show eg<|zh u (λ_ z k=>?_) λ_ _ H=>H;show eg<|zh k (λ_ p j=>eg<|zh j (λO y t=>?_) λ_ _ H=>H) λ_ _ H=>H;cases O with
  |false=>exact vh ⟨rfl,t⟩
  |true=>exact eg<|eg<|zh t (λx o i=>eg (zh i (λ_ l g=>vh (vh ⟨rfl,g⟩)) λ_ _ H=>H)) λ_ _ H=>H
abbrev iT(cells:k_ (Str×h_)):k_ (Str×NameKind)->k_ (Str×h_)->k_ (Str×h_)
 |[],cs=>cs
 |(n,k)::r,cs=>iT cells r (if(k == zv)=true then(n,(cells.lookup n).getD 0)::cs else cs)
def AW(h:∀y∈scope.names,y.2=zv->∃c,env.cells.lookup y.1=a8 c):closureFor scope env=pure (αy scope.names []):=by
 have g:∀(a:k_ _)(s:k_ _),(∀y∈a,y.2=zv->∃c,env.cells.lookup y.1=a8 c)->
   (forIn a s λx(r:k_ _)=>match x with
    |(m,d)=>if(d == zv)=true then(do let y <-cellOf env m;pure (ForInStep.yield ((m,y)::r))) else(pure (ForInStep.yield r):Sem _))=(pure (αy a s):Sem _):=by
  intro a
  induction a with
  |nil=>intro s _;rfl
  |cons y r I=>
   intro s Y
   let(n,k):=y
   rw[List.forIn_cons]
   have i:=λC=>I C λy M=>Y y<|vr _ M
   by_cases H:(k == zv)=true
   ·let(c,z):=Y _ vo (d0 H)
    have E:cellOf env n=pure c:=by unfold cellOf;rw[show env.cells.lookup n=a8 c from z]
    have e:αy ((n,k)::r) s=αy r ((n,c)::s):=by
     show iT _ r (if _=true then _ else _)=_
     rw[βf 0,show env.cells.lookup n=a8 c from z];rfl
    rw[e,<-i _]
    simp only[H,if_true,E,pure_bind]
   ·have e:αy ((n,k)::r) s=αy r s:=by
     show iT _ r (if _=true then _ else _)=_
     rw[γM 0]
    rw[e,<-i s]
    simp only[H]
    try rfl
 have:=g _ [] h
 unfold closureFor
 simpa using this
def wD{cells:k_ (Str×h_)}{x:Str}{c:h_}:∀(names)(s),(iT cells names s).lookup x=a8 c->s.lookup x=a8 c\/(∃y∈names,y.1=x/\y.2=zv/\c=(cells.lookup x).getD 0)
 |[],_,h=>.inl h
 |(n,k)::r,s,h=>by
  rcases wD r _ h with H|⟨y,Y,e⟩
  ·by_cases K:(k == zv)=true
   ·rw[if_pos K]at H;by_cases X:x=n
    ·subst X;simp only[yn,beq_self_eq_true]at H;show .inr<|I1d (x,k) vo rfl (d0 K)<|(wu H).symm
    ·have:(x == n)=false:=by simpa using X
     simp[yn,this]at H;show .inl H
   ·rw[if_neg K]at H;show .inl H
  ·show .inr (I1b y (εs Y) e)
def yR{cells:k_ (Str×h_)}{x:Str}:∀(names)(s),((∃c,s.lookup x=a8 c)\/∃y∈names,y.1=x/\y.2=zv)->∃c,(iT cells names s).lookup x=a8 c
 |[],_,h=>by
  rcases h with h|⟨y,H,_⟩
  ·show h
  ·cases H
 |(n,k)::r,s,h=>by
  show yR r _ ?_;rcases h with⟨c,h⟩|⟨y,H,e,E⟩
  ·left;by_cases K:(k == zv)=true
   ·rw[if_pos K];by_cases X:x=n
    ·subst X;simp
    ·have:(x == n)=false:=by simpa using X
     show(c,by simp[yn,this];show h)
   ·rw[if_neg K];show(c,h)
  ·rcases v8.mp H with rfl|H
   ·left;rw[if_pos<|d0 E];subst e;simp
   ·show .inr (I1c y H e E)
abbrev kJ(os:Scope)(oN:S2 0)(sc:Scope)(N:S2 0)(js:k_ (l7 Nat)):Bool:=
 (match sc.kind with|.function=>true|_=>false)&&sc.names.all (λy=>match y.2 with
  |.cell=>(match sc.names.lookup y.1 with|some .cell=>true|_=>false)
  |_=>true) &&
 sc.names.all (λy=>match y.2 with
  |.local=>(match sc.names.lookup y.1 with|some .local=>true|_=>false)
  |.free=>(match sc.names.lookup y.1,os.names.lookup y.1 with|some .free,a8 .cell=>true|some .free,a8 .free=>true|_,_=>false)
  |_=>true) &&
 js.l == N.l&&(js.zip N).all (λp=>match p.1 with
  |none=>true
  |some j=>(match oN[j]? with|some x=>decide (x=p.2)|none=>false)&&(match sc.names.lookup p.2 with|some .free=>true|_=>false))
structure Po(os:Scope)(oN:k_ Str)(sc:Scope)(N:k_ Str)(js:k_ (l7 Nat)):Prop where
 kind:sc.kind=.function
 own:∀y∈sc.names,y.2=.cell->sc.names.lookup y.1=some .cell
 nm:∀y∈sc.names,y.2=.local->sc.names.lookup y.1=some .local
 fr:∀y∈sc.names,y.2=.free->os.names.lookup y.1=some .cell\/os.names.lookup y.1=some .free
 len:js.l=N.l
 cap:∀(i j:Nat),js[i]?=some (some j)->∃x,N[i]?=some x/\oN[j]?=some x/\sc.names.lookup x=some .free
variable{js:k_ (l7 Nat)}{oN:S2 0}{os sc:Scope}
def HE(h:Zn N js=true):Po os oN sc N js:=by
 unfold kJ at h;simp only[wy]at h;let((((z,u),w),v),s):=h;show(?_,λy H e=>?_,λy H e=>?_,λy H e=>?_,d0 v,λi j e=>?_)
 ·cases K:sc.kind <;> rw[K]at z <;> exact YJ wg
 ·have:=we.mp u y H;rw[e]at this;cases l:sc.names.lookup y.1 with
  |none=>rw[l]at this;show ZY wg
  |some k=>cases k <;> rw[l]at this <;> exact ZY wg
 ·have:=we.mp w y H;rw[e]at this;dsimp only at this;cases l:sc.names.lookup y.1 with
  |none=>rw[l]at this;show ZY wg
  |some k=>cases k <;> rw[l]at this <;> exact ZY wg
 ·have:=we.mp w y H;rw[e]at this;dsimp only at this;cases l:sc.names.lookup y.1 with
  |none=>rw[l]at this;show ZY wg
  |some k=>
   rw[l]at this;cases o:os.names.lookup y.1 with
   |none=>rw[o]at this;cases k <;> exact ZY wg
   |some r=>rw[o]at this;cases k <;> cases r <;> first|exact .inl rfl|exact .inr rfl|exact ZY wg
 ·let n:js.l=N.l:=by simpa using v
  let(I,E):=Y7 0;let q:i<N.l:=⋯;let Z:(js.zip N)[i]?=a8 (a8 j,N[i]):=by rw[List.getElem?_zip_eq_some];show(e,by simp)
  have:=we.mp s _<|xw Z;simp at this;let(t,T):=this;show I1c (N[i]) (by simp) ?_ ?_
  ·cases o:oN[j]? with
   |none=>rw[o]at t;show absurd t wg
   |some x=>rw[o]at t;rw[of_decide_eq_true t]
  ·cases l:sc.names.lookup N[i] with
   |none=>rw[l]at T;show absurd T wg
   |some k=>rw[l]at T;cases k <;> first|rfl|exact absurd T wg
def dH{κ:Type}{x:Str}{k:κ}:∀{l:k_ (Str×κ)},l.lookup x=a8 k->(x,k)∈l
 |[],h=>by simp at h
 |(n,v)::r,h=>by
  by_cases H:x=n
  ·subst H;simp[yn]at h;cases h
   show vo
  ·have:(x == n)=false:=by simpa using H
   simp[yn,this]at h;show εs<|dH h
def oF{sc:Scope}{env:Env}:∀{names:k_ (Str×NameKind)}{x:Str}{k:NameKind},(names.map λ(n,k)=>if(k == zv&&env.scope.kind == .function&&δG 0 == a8 .cell) then(n,XE) else(n,k)).lookup x=a8 k->
  names.lookup x=a8 k\/(k=.cell/\names.lookup x=a8 .free)
 |[],_,_,h=>by simp at h
 |(n,q)::r,x,k,h=>by
  let i:=@oF sc env r x k;by_cases c:(q == zv&&env.scope.kind == .function&&δG 0 == a8 .cell)=true
  ·simp only[wq]at h;rw[Za 0]at h;let Q:q=.free:=by simp only[wy]at c;simpa using c.1.1
   by_cases H:x=n
   ·subst H;simp only[yn,beq_self_eq_true]at h⊢;show .inr ⟨(wu h).symm,by rw[Q]⟩
   ·let e:(x == n)=false:=by simpa using H
    simp only[yn,e]at h⊢;show i h
  ·simp only[wq]at h;rw[βh 0]at h;by_cases H:x=n
   ·subst H;simp only[yn,beq_self_eq_true]at h⊢;show .inl h
   ·let e:(x == n)=false:=by simpa using H
    simp only[yn,e]at h⊢;show i h
def tK{env:Env}:∀{names:k_ (Str×NameKind)}{x:Str},names.lookup x=a8 .free->
  (names.map λ(n,k)=>if(k == zv&&env.scope.kind == .function&&δG 0 == a8 .cell) then(n,XE) else(n,k)).lookup x=a8 .free\/
  (names.map λ(n,k)=>if(k == zv&&env.scope.kind == .function&&δG 0 == a8 .cell) then(n,XE) else(n,k)).lookup x=a8 .cell
 |[],_,h=>by simp at h
 |(n,q)::r,x,h=>by
  let i:=@tK env r x;by_cases c:(q == zv&&env.scope.kind == .function&&δG 0 == a8 .cell)=true
  ·simp only[wq];rw[Za 0];by_cases H:x=n
   ·subst H;simp only[yn,beq_self_eq_true];show .inr trivial
   ·let e:(x == n)=false:=by simpa using H
    simp only[yn,e]at h⊢;show i h
  ·simp only[wq];rw[βh 0];by_cases H:x=n
   ·subst H;simp only[yn,beq_self_eq_true]at h⊢;show .inl h
   ·let e:(x == n)=false:=by simpa using H
    simp only[yn,e]at h⊢;show i h
def bI:∀(names)(n)(a),εP a=εP []++a
 |[],_,_=>rfl
 |(x,k)::r,n,a=>by
  unfold zk;split
  ·rw[bI r _ _,bI r _ [(x,n)],Vw];rfl
  ·show bI r n a
open H in
def mO{x:Str}{c:h_}:∀{names:k_ (Str×NameKind)}{n:Nat},(x,c)∈εP []->(x,XE)∈names
 |[],_,h=>by cases h
 |(y,k)::r,n,h=>by
  unfold zk at h;split at h
  ·rename_i H;rw[bI,xj]at h;rcases h with h|h
   ·show εs (mO h)
   ·let E:x=y:=αM<|vx.mp h;let e:k=.cell:=by simpa using H
    rw[E,e];show vo
  ·show εs (mO h)
def wF{α:Type}{x:Str}{c:α}:∀{l:k_ (Str×α)},(x,c)∈l->∃d,l.lookup x=a8 d
 |(y,d)::r,h=>by
  by_cases e:x=y
  ·subst e;show(d,by simp)
  ·let z:(x == y)=false:=by simpa using e
   rcases v8.mp h with q|q
   ·show absurd (αM q) e
   ·let(D,H):=wF q;show(D,by simp[yn,z];show H)
def gG{x:Str}:∀{names:k_ (Str×NameKind)}{n:Nat},(x,XE)∈names->∃c,(εP []).lookup x=a8 c
 |(y,k)::r,n,h=>by
  let g:∃c,(x,c)∈zk n ((y,k)::r) []:=by
   rcases v8.mp h with q|q
   ·let E:x=y:=αM q;let e:k=.cell:=(γX q).symm;show(n,?_);unfold zk;rw[if_pos (by rw[e];rfl),bI,E];show v5 _ vo
   ·unfold zk;split
    ·let(c,H):=gG q;rw[bI];show(c,y6 _<|mem_of_lookup H)
    ·let(c,H):=gG q;show(c,mem_of_lookup H)
  let(c,H):=g;show wF H
def tL{α:Type}{x:Str}:∀{l r:k_ (Str×α)},(l++r).lookup x=(l.lookup x).or (r.lookup x)
 |[],_=>by simp
 |(y,d)::l,r=>by
  cases e:x == y with
  |true=>simp[yn,e]
  |false=>simp[yn,e];show tL
variable{M:Model}{builtins globals:h_}{closure:k_ (Str×h_)}{code:gV}{func:l7 h_}
def uW{outer:Env}{Q:c9 Env}(h:Q (newEnv scope (b7 s) globals (zk (s.heap.objs.size+1) scope.names closure) qual func code (a8 outer) builtins) {s with heap:=pushCells (s.heap.push {cls:=.type "dict",data:=.dict #[]}) scope.names}):
  X9 (newFunctionEnv scope globals closure [] qual func code (a8 outer) builtins) Q E s:=by
 simp only[newFunctionEnv,Option.isSome_some,if_true];show eg<|wpAny_alloc ?_;show eg (wpAny_layCells _ (λn k c=>by cases H:k == XE <;> simp) _ _ _ _ ?_);rw[show({s with heap:=s.heap.push {cls:=.type "dict",data:=.dict #[]} }:g_).heap.objs.size=(b7 s)+1 from Wz ..]
 show eg<|vh<|vh h
abbrev Cx.comp(X:Cx)(sc:Scope)(N:S2 0)(C:h_)(fp:k_ h_)(s₀:g_)(H₀:Hp):Cx:=
 { X with N:=N,s₀:=s₀,H₀:=H₀,env:=compEnvC sc (zk (C+1) sc.names<|iT X.env.cells sc.names []) C X.env,outer:=X.stack,ex:=fp,fn:=λx=>(match P1 0 with|some .cell=>true|_=>false),pn:=[],xe:=λ_ _=>False}
abbrev Cx.compE(X:Cx)(sc:Scope)(N:S2 0)(C:h_)(fp:k_ h_)(s₀:g_)(H₀:Hp)(xk:h_->k_ h_->g_->Hp->b9 0):Cx:={ X.comp sc N C fp s₀ H₀ with xe:=xk C fp s₀ H₀}
abbrev EJ:St->Nat->l7 V
 |[],_=>a9
 |x::_,0=>x
 |_::r,n+1=>EJ r n
def yS:∀{σ:St}{i:Nat}{v:V},EJ σ i=a8 v->σ[i]?=a8 (a8 v)
 |[],_,_,h=>by cases h
 |x::_,0,v,h=>by let H:x=a8 v:=h;simp[H]
 |_::r,n+1,v,h=>by rw[List.getElem?_cons_succ];show yS h
abbrev oB(js:k_ (l7 Nat))(σ:St):St:=js.map λo=>match o with
 |none=>a9
 |some j=>EJ σ j
variable{i:Nat}
def Mt{σ:St}{v:V}(h:(β7 0)[i]?=a8 (a8 v)):∃j,js[i]?=a8 (a8 j)/\σ[j]?=a8 (a8 v):=by
 unfold oB at h;rw[wm]at h;cases e:js[i]? with
 |none=>rw[e]at h;exists h
 |some o=>
  rw[e]at h;cases o with
  |none=>cases h
  |some j=>exact I1b j rfl<|yS<|wu h
abbrev PTs(X:Cx)(ifs:k_ j_)(t:TT):Prop:=
 ∀(c6:b_ 0)(s:g_)(σ:St)(H:Hp)(Q:Bool->Hp->Prop),u_ s->t σ H Q->wpAny (c3 X) X.A (Gc ifs X.env) (εL Q) X.xe s
abbrev RD:TT:=λ_ H Q=>Q true H
def Mu:PTs X [] RD:=λ_ _ _ H _ I h=>wpAny_tests_nil<|I1b H I h
def Mv{c:j_}{t:TT}(h:PT X c t):PTs X [c] t:=λp s z H Q I q=>wpAny_tests_one<|h p s z H Q I q
abbrev Og(js:k_ (l7 Nat))(g:TG)(tt:TT)(te:TE)(σ:St)(acc:h_)(x:V)(H:Hp)(N:Hp->Prop):Prop:=g x (β7 0) H λσ2 H4=>tt σ2 H4 λb H5=>if b=true then te σ2 H5 λv H6=>∃ys,H6 acc=a8 (.lst ys)/\ys.l<wa/\N (upd H6 acc<|.lst<|ys++[v]) else N H5
abbrev D6(js:k_ (l7 Nat))(wi:TI)(g:TG)(tt:TT)(te:TE):TE:=λσ H Q=>wi σ H λJ H1=>∀acc,H1 acc=a9->
 ∃W:Nat->Nat->Hp->Prop,(∃m,W 0 m<|upd H1 acc<|.lst [])/\∀i m H2,W i m H2->
  (ε2 H2/\Q (.ref acc) H2)\/(J.go i H2/\∃N:Hp->Prop,(∀H',N H'->∃m',m'<m/\W (i+1) m' H')/\∀x H3,J.yld i H2 x H3->Og js g tt te σ acc x H3 N)
structure Off(X:Cx)(c6:b_ 0)(H:Hp)(C:h_)(s:g_):Prop where
 ns:∃m,s.heap.Ns C m
 none:H C=none
 loc:C≠X.env.locals
 new:X.s₀.heap.objs.size<=C
 cells:∀x c,X.env.cells.lookup x=some c->c≠C
 c6:∀p∈X.pn++c6,p.1≠C
def Off.go{σ:St}{C:h_}(o:ζb H C s)(I:u_ s)(S:VJ C s.heap h'):u_ {s with heap:=h'}:=I.turned (λb O h e=>(S.2 b h).trans e) o.none o.loc (.inr o.new) o.cells o.c6
variable{Q0:b9 0}{te:TE}{tg:j_}{tt:TT}{use:l7 (gV->Sem Unit)}{xk:h_->k_ h_->g_->Hp->b9 0}
def EK{elt:j_}{wi:TI}{g:TG}(hc:X.calm=true)(qt:X.env.scope=os)(qa:X.N=oN)(ok:Zn N js=true)(hi:Zw wi)(hg:∀C f a t,PG (γ6 xk) tg g)(ht:∀C f a t,PTs (γ6 xk) ifs tt)(he:∀C f a t,PE (γ6 xk) elt te){σ:St}{Q:VK}(I:u_ s)(h:γt te σ H Q)(mr:∀acc C U R,c8 R U->ζb R C U->Q (.ref acc) R->compPost (c3 X) X.A X.xe use Q0 (.ref acc) C (.ok .next) U)(jl:∀C f a t,(∀P M R U,Inv (γ6 xk) P M R U->c8 R U/\ζb R C U)->∀x J,xk C f a t x J->notedBy (c3 X) X.A (γ6 xk).env (λx iq=>compPost (c3 X) X.A X.xe use Q0 .none C (.error x) iq) x J)(hs:wP (∀x,Yn x=pure x) kt):
  wpAny (c3 X) X.A (comprehension (.ListComp elt [⟨tg,iter,ifs,0⟩] sc pos) sc X.env (firstIterPos [⟨tg,iter,ifs,0⟩] pos) (newList []) false (eval iter X.env) use) Q0 X.xe s:=by
 let S:=HE ok;subst qt qa;let gw:∀y∈sc.names,y.2=zv->∃c,X.env.cells.lookup y.1=a8 c:=λy hy e=>I.ok.has y.1<|S.fr y hy e;let ei:∀x c,(ζc []).lookup x=a8 c->A2 0=a8 c:=λx c e=>by
  rcases wD _ _ e with z|⟨y,hy,e1,e2,e3⟩
  ·exists z
  ·let(d,D):=gw y hy e2;rw[e1]at D;rw[D]at e3;rw[D,e3];rfl
 show wpAny_comprehension_free (use:=use) rfl hs (AW gw) S.kind S.nm<|thn (hi c6 s σ H _ I h) λv s1 h1=>thn h1 λmf O h2=>?_;let(it,f,tn,J,H2,e,I2,T,m9,f2,q):=h2;subst e;let(W,(m0,w0),turn):=q O.heap.objs.size I2.fresh;show wt<|uW ?_;let Z:c8 (ζd<|.lst []) { O with heap:=O.heap.push {cls:=.type "list",data:=.seq ([]:YX 0).toArray},toks:=O.toks}:=I2.lnew (its:=[]) (ys:=[]) .nil<|w6 _;generalize pq:ζd (HO.lst [])=H3 at w0 Z;generalize ua:({ O with heap:=O.heap.push {cls:=.type "list",data:=.seq ([]:YX 0).toArray},toks:=O.toks}:g_)=s3 at Z;let qj:=ua;let n8:O.heap.push {cls:=.type "list",dict:=a9,data:=.seq ([]:YX 0).toArray}=s3.heap:=by rw[<-qj]
 (try rw[n8])
 let hC:∀b o,s3.heap.get? b=a8 o->b≠(b7 s3):=λb o e=>wc<|vy e;let K:∀b o,s3.heap.get? b=a8 o->(pushCells (s3.heap.push {cls:=.type "dict",data:=.dict #[]}) sc.names).get? b=a8 o:=λb o e=>pushCells_keeps _ _ b o<|vi _ e;let L:(pushCells (s3.heap.push {cls:=.type "dict",data:=.dict #[]}) sc.names).Ns (b7 s3) (λ_=>a9):=(Heap.Ns.new s3.heap<|.type "dict").keeps<|pushCells_keeps _ _;let j:=cellsFrom_ok sc.names (s3.heap.push {cls:=.type "dict",data:=.dict #[]}) (s3.heap.objs.size+1) [] ⟨λ_ _ hm=>(nomatch hm),Xo⟩ (by rw[Wz];show vk _);rw[Wz]at j;generalize pushCells (s3.heap.push {cls:=.type "dict",data:=.dict #[]}) sc.names=h₁ at K L j⊢;let q:∀{x c},(zk (s3.heap.objs.size+1) sc.names<|iT X.env.cells sc.names []).lookup x=a8 c->((x,c)∈zk (s3.heap.objs.size+1) sc.names []/\h₁.IsCell c a9/\(b7 s3)+1<=c)\/(A2 0=a8 c/\c<(b7 s3)):=λ{x c} e=>by
  rw[bI,tL]at e;cases eo:(zk (s3.heap.objs.size+1) sc.names []).lookup x with
  |some d=>
   rw[eo]at e;cases e
   have:=mem_of_lookup eo;show .inl ⟨this,j.empty x c this⟩
  |none=>rw[eo]at e;let e:=ei x c e;let(v,z):=Z.cell x c e;show .inr ⟨e,z.lt⟩
 let oj:∀{x c},P1 0=a8 .free->(ζc []).lookup x=a8 c->(zk (s3.heap.objs.size+1) sc.names<|iT X.env.cells sc.names []).lookup x=a8 c:=λ{x c} E e=>by
  rw[bI,tL];cases eo:(zk (s3.heap.objs.size+1) sc.names []).lookup x with
  |some d=>have:=S.own _ (mO<|mem_of_lookup eo) rfl;rw[E]at this;cases this
  |none=>exact e
 let oq:tn 0 s3.heap:=T.keep 0 _ _ m9 λb B o e=>by rw[<-n8];show X4 e
 let j6:∀b∈f,∃o,s3.heap.get? b=a8 o/\∀v,o.data≠.cell v:=T.obj 0 _ oq;let f3:∀b∈f,CT X c6 H3 b:=λb B=>by let(o,l,_):=T.obj 0 _ m9 b B;show(?_,(f2 b B).2);rw[<-pq,aG<|wc<|vy l];show(f2 b B).1
 -- the block's context
 let jd:(B_ (b7 s3) f s3 H3 xk).Ok:=by
  show⟨I.ok.mod,S.kind,I.ok.glob,I.ok.blt,vk _,λx y c e1 e2=>?_,λx hx=>?_,λx c z e=>?_,I.ok.hd,I.ok.frames,.inl rfl,λb B=>?_,Z.bs,
   vz I.ok.bsz Z.sz,λb o e B=>?_,λb B E=>?_,Z.stack,Z.stkFree⟩
  ·rcases q e1 with⟨m1,_,g1⟩|⟨z1,g1⟩ <;> rcases q e2 with⟨m2,_,g2⟩|⟨z2,g2⟩
   ·show name_of_addr j.apart m1 m2
   ·show absurd (wb g2<|Vx g1) (VO _)
   ·show absurd (wb g1<|Vx g2) (VO _)
   ·show I.ok.inj x y c z1 z2
  ·let fr:P1 0=a8 .free->∃c,(zk (s3.heap.objs.size+1) sc.names<|iT X.env.cells sc.names []).lookup x=a8 c:=λE=>
    let ⟨c,hc⟩:=yR (cells:=X.env.cells) (x:=x) sc.names []<|.inr ⟨_,dH E,rfl,rfl⟩
    ⟨c,oj E hc⟩
   let fin:∀{k},(relabel sc X.env).names.lookup x=a8 k->(k=.cell\/k=.free)->∃c,(zk (s3.heap.objs.size+1) sc.names<|iT X.env.cells sc.names []).lookup x=a8 c:=λ{k} e hk=>by
    rcases oF (sc:=sc) e with z|⟨_,z⟩
    ·rcases hk with rfl|rfl
     ·let(c,hc):=gG (n:=(b7 s3)+1)<|dH z;show(c,by rw[bI,tL,hc];rfl)
     ·show fr z
    ·show fr z
   rcases hx with hx|hx
   ·show fin hx (.inl rfl)
   ·show fin hx (.inr rfl)
  ·let z:P1 0=a8 .cell:=by
    let z:(match P1 0 with|some .cell=>true|_=>false)=true:=z
    split at z
    ·assumption
    ·exists z
   let e:(zk (s3.heap.objs.size+1) sc.names<|iT X.env.cells sc.names []).lookup x=a8 c:=e;let(d,D):=gG (n:=(b7 s3)+1)<|dH z;rw[bI,tL,D]at e;cases e
   show Vx (j.empty x c<|mem_of_lookup D).2
  ·let(o,l,_):=j6 b B;show(hC b o l,λx c e=>?_);rcases q e with⟨_,_,g1⟩|⟨z1,_⟩
   ·show Io (wb (vy l)<|Vx g1)
   ·show(f3 b B).2.2.2.2.1 x c z1
  ·rcases(f3 b B).2.2.2.1 with z|z
   ·show I.ok.noex b o e z
   ·show absurd (wb (vy e)<|vz I.ok.bsz z) (VO _)
  ·rcases v8.mp (Z.stkSub b E) with z|z
   ·show(f3 b B).2.1 z
   ·show(f3 b B).2.2.1 z
 -- what the block takes from around it
 let g0:∀(i:Nat)(x:Str)(v:V),N[i]?=a8 x->(β7 0)[i]?=a8 (a8 v)->∃u c o,Yi u/\((compEnvC sc (zk (s3.heap.objs.size+1) sc.names<|iT X.env.cells sc.names []) (b7 s3) X.env).kindOf x=a8 .cell\/(compEnvC sc (zk (s3.heap.objs.size+1) sc.names<|iT X.env.cells sc.names []) (b7 s3) X.env).kindOf x=a8 .free)/\
   (zk (s3.heap.objs.size+1) sc.names<|iT X.env.cells sc.names []).lookup x=a8 c/\s3.heap.get? c=a8 o/\o.data=.cell (a8 u)/\H3 c=a9/\c∉f:=by
  intro i x v hN hv;let(j,hj,hσ):=Mt hv;let(x',og,l,E):=S.cap i j hj;rw[hN]at og;cases og;let(m,hn,hl):=Z.loc;let lz:αk x:=by
   rcases S.fr _ (dH E) rfl with z|z
   ·show .inr (.inl z)
   ·show .inr (.inr z)
  let(u,r,l):=hl j x v l hσ lz;let(c,ik):=yR (cells:=X.env.cells) (x:=x) sc.names []<|.inr ⟨_,dH E,rfl,rfl⟩;let jk:=ei x c ik;let ie:s3.heap.IsCell c (a8 u):=by
   rcases l with⟨k,_⟩|⟨_,c',e,z⟩
   ·exfalso;rcases S.fr _ (dH E) rfl with z|z
    ·let k':A6 0=a8 .local:=k;rw[z]at k';cases k'
    ·let k':A6 0=a8 .local:=k;rw[z]at k';cases k'
   ·rw[jk]at e;cases e;show z
  let(o,uk,D):=ie;show(u,c,o,r,?_,oj E ik,uk,D,Z.freeC x c jk,λB=>(f3 c B).2.2.2.2.1 x c jk rfl);show(tK (env:=X.env) E).symm
 -- at any state of the block,its names as at its start
 let ir:∀{P:b_ 0}{G:St}{H8:Hp}{s8:g_},Inv (B_ (b7 s3) f s3 H3 xk) P G H8 s8->Inv (B_ (b7 s3) f s3 H3 xk) [] (β7 0) H8 s8:=λ{P G H8 s8} F=>by
  show(F.ok,F.os,F.bare,F.base,?_,F.cell,F.free,F.freeC,λp hp=>by simp[Cx.compE,Cx.comp]at hp,F.hok,?_)
  ·let(m,(hn),_):=F.loc;show I1b m hn λi x v hN hv _=>?_;let(u,c,o,(r),k,hl,l,D,qi,tj):=g0 i x v hN hv;show I1b u r<|.inr ⟨k,c,hl,?_⟩;let(sl,e):=F.base.any l qi tj;show A0 e D
  ·change(β7 0).length=N.l
   unfold oB;rw[vn,S.len]
 let I4:Inv (B_ (b7 s3) f s3 H3 xk) [] (β7 0) H3 {s3 with heap:=h₁}:=by
  show(jd,rfl,Z.bare,Un.kept K,(A0 L λi x v hN hv _=>?_),λx c e=>?_,Z.fresh,λx c e=>?_,λp hp=>by simp[Cx.compE,Cx.comp]at hp,Z.hok.kept K,?_)
  ·let(u,c,o,(r),k,hl,l,D,_,_):=g0 i x v hN hv;show I1b u r<|.inr ⟨k,c,hl,o,K c o l,D⟩
  ·rcases q e with⟨_,g1,_⟩|⟨z1,_⟩
   ·show(_,g1)
   ·let(v,o,(l),D):=Z.cell x c z1;show I2b v o (K c o l) D
  ·rcases q e with⟨_,_,g1⟩|⟨z1,_⟩
   ·show Z.hok.fresh ⋯
   ·show Z.freeC x c z1
  ·change(β7 0).length=N.l
   unfold oB;rw[vn,S.len]
 let o7:tn 0 h₁:=T.keep 0 _ _ oq λb B o e=>K b o e;let L:∀{Y:Hp},(∀b∈f,Y b=a9)->∀b∈f,CT (B_ (b7 s3) f s3 H3 xk) [] Y b:=λ{Y} hn b B=>⟨hn b B,(jd.exf b B).1,jd.exfs b B,.inl B,(jd.exf b B).2,λp hp=>by simp[Cx.compE,Cx.comp]at hp⟩;let out:∀P M R U,Inv (B_ (b7 s3) f s3 H3 xk) P M R U->c8 R U/\ζb R (b7 s3) U:=λP M R U W=>by
  show(Z.call' (ch:=f) W.os W.base W.hok W.bare λb B=>⟨(f3 b B).2.2.2.1,(f3 b B).2.1,(f3 b B).2.2.2.2.1,(f3 b B).2.2.2.2.2⟩,let ⟨m,hn,_⟩:=W.loc;⟨m,hn⟩,W.free,Io Z.lt,Z.sz,λx c e=>?_,λp hp=>?_)
  ·let(v,z):=Z.cell x c e;show wc z.lt
  ·show wc (vy (Z.pin p hp).1)
 let fin:∀(U:g_)(R:Hp),Inv (B_ (b7 s3) f s3 H3 xk) [] (β7 0) R U->Q (.ref O.heap.objs.size) R->compPost (c3 X) X.A X.xe use Q0 (.ref O.heap.objs.size) (b7 s3) (.ok .next) U:=λU R W q6=>mr _ _ _ _ (out _ _ _ _ W).1 (out _ _ _ _ W).2 q6;let loop:codeAny (c3 X) X.A (.compLoop (.ListComp elt [⟨tg,iter,ifs,0⟩] sc pos) 0 (.ref it) (.ref O.heap.objs.size)<|compEnvC sc (zk (s3.heap.objs.size+1) sc.names<|iT X.env.cells sc.names []) (b7 s3) X.env)
   (compPost (c3 X) X.A X.xe use Q0 (.ref O.heap.objs.size)<|b7 s3) {s3 with heap:=h₁}:=by
  show AV (E':=(B_ (b7 s3) f s3 H3 xk).xe) (λx J q=>by cases use <;> exact jl _ _ _ _ out x J q) (λn J=>∃i Y,Inv (B_ (b7 s3) f s3 H3 xk) [] (β7 0) Y J/\tn i J.heap/\(∀b∈f,Y b=a9)/\W i n Y) ?_ m0<|I2d 0 H3 I4 o7 (λb B=>(f3 b B).1) w0;show λn s5 q0=>E2d q0 λi H5 I5 oi oy w5=>?_;rcases turn i n H5 w5 with⟨stop,qn⟩|⟨go,Nn,hN,step⟩
  ·show thn (T.done (B_ (b7 s3) f s3 H3 xk) rfl rfl rfl hc i [] s5 (β7 0) H5 (B_ (b7 s3) f s3 H3 xk).xe I5 (L oy) oi stop) λr U w0=>?_;let(hr,W):=w0;subst hr;show fin U H5 W qn
  ·show thn (T.item (B_ (b7 s3) f s3 H3 xk) rfl rfl rfl hc i [] s5 (β7 0) H5 (B_ (b7 s3) f s3 H3 xk).xe I5 (L oy) oi go) λr U z6=>E1b z6 λu hr h6=>?_;subst hr;show thn h6 λ_ s7 z5=>E2e z5 λx H7 I7 r7 y7 kj sd=>?_;let u0:=I7.pinned (L sd)<|T.obj _ _ kj;show thn (hg _ _ _ _ _ s7 _ H7 x u _ u0 r7<|step x H7 y7) λ_ s8 z4=>E2b z4 λG H8 F q8=>?_;show thn (ht _ _ _ _ _ s8 G H8 _ F q8) λb s9 z3=>E1b z3 λH9 I9 q9=>?_;let d:∀{M:St}{Y:Hp}{J:g_},Inv (B_ (b7 s3) f s3 H3 xk) ([]++yC f s7.heap) M Y J->Nn Y->∃m,m<n/\∃i Y,Inv (B_ (b7 s3) f s3 H3 xk) [] (β7 0) Y J/\tn i J.heap/\(∀b∈f,Y b=a9)/\W i m Y:=λ{M Y J} I' n'=>by let(m',hm,w'):=hN Y n';show(m',hm,i+1,Y,ir I',T.keep _ _ _ kj λb B o e=>(I'.pin (b,o)<|v5 _<|v5 _<|mI B e).1,λb B=>?_,w');let(o,e,d):=T.obj _ _ kj b B;show(I'.pin (b,o)<|v5 _<|v5 _<|mI B e).2.1
   cases b with
   |false=>exact d I9 q9
   |true=>show thn (he _ _ _ _ _ s9 G H9 _ I9 q9) λu' qh w0=>?_;let(v,uj,sg,rv,ys,dh,hz,u7):=w0;show thn (Bh (X:=B_ (b7 s3) f s3 H3 xk) _ qh G uj (.ref O.heap.objs.size) [v] (.ref O.heap.objs.size) [u'] (λ_ Y=>Nn Y) sg rfl (.cons rv .nil)<|I3e _ ys v rfl rfl dh hz u7) λ_ s11 z0=>E2c z0 λ_ H11 qf _ u5=>?_;show d qf u5
 show codeAny_compStart_list loop<|T.self X.A 0 _ _ _ o7 loop
def Bm{elt:j_}{wi:TI}{g:TG}(c:X.calm=true)(E:X.env.scope=os)(e:X.N=oN)(o:Zn N js=true)(hi:Zw wi)(G:∀C f S y,PG (ZW y) tg g)(T:∀C f S y,PTs (ZW y) ifs tt)(t:∀C f S y,PE (ZW y) elt te){σ:St}{Q:VK}(I:u_ s)(h:γt te σ H Q)(i:∀a C u v,c8 v u->ζb v C u->Q (.ref a) v->compPost (c3 X) X.A X.xe use Q0 (.ref a) C (.ok .next) u)(r:wP (∀x,Yn x=pure x) kt):
  wpAny (c3 X) X.A (comprehension (.ListComp elt [⟨tg,iter,ifs,0⟩] sc pos) sc X.env (firstIterPos [⟨tg,iter,ifs,0⟩] pos) (newList []) false (eval iter X.env) use) Q0 X.xe s:=
 EK c E e o hi G T t I h i (λ_ _ _ _ _ _ _ z=>z.elim) r
def Mw{elt:j_}{wi:TI}{g:TG}(c:X.calm=true)(E:X.env.scope=os)(e:X.N=oN)(k:Zn N js=true)(hi:Zw wi)(G:∀C f S z,PG (ZW z) tg g)(T:∀C f S z,PTs (ZW z) ifs tt)(u:∀C f S z,PE (ZW z) elt te)(t:wP (∀x,Yn x=pure x) kt):V_ (.ListComp elt [⟨tg,iter,ifs,0⟩] sc pos) (γt te):=by show λp s m H Q I h=>Bm c E e k hi G T u I h (λa C n w v o q=>?_) t;show(o.ns.choose,o.ns.choose_spec,λr y=>(I2c (.ref a) w (o.go v y) rfl q))
variable{bq pos':Pos}
def EL{elt:j_}{wi:TI}{g:TG}(Z:X.N.Nodup)(n:X.N[i]?=a8 x)(l:A6 0=a8 .local)(Y:X.calm=true)(t:X.env.scope=os)(E:X.N=oN)(K:Zn N js=true)(hi:Zw wi)(G:∀C f S z,PG (ZW z) tg g)(T:∀C f S z,PTs (ZW z) ifs tt)(V:∀C f S z,PE (ZW z) elt te)(W:wP (Xs (.ListComp elt [⟨tg,iter,ifs,0⟩] sc pos) (a8<|.Name x pos') bq.line X.env=pure true) zn)(U:wP (∀x,Yn x=pure x) kt):PS X (.Assign [.Name x pos'] (.ListComp elt [⟨tg,iter,ifs,0⟩] sc pos) bq) (M1 (γt te)<|G7 i):=by
 intro p s J H D I h
 rw[exec_Assign_Name_used _ _ _ _ W]
 show eg<|wpAny_standAt<|eg ?_
 show αG X.A (do let _ <-comprehension _ sc X.env _ _ false _ (a8<|assign _ X.env)) _ _ s
 show eg<|thn (Bm (use:=a8<|assign _ X.env) Y t E K hi G T V I h (λc C L k d o q=>?_) U) λ_ M Q=>vh<|vh Q
 show αG X.A (assign _ X.env _) _ _ _
 show wpAny_assign_Name<|Ba d Z n (.inl l) (v:=.ref c) rfl (λR b z0=>E1b z0 λa w u=>?_)<|.inr l
 have y:C≠a:=by
  rcases u with rfl|u
  ·exact o.loc
  ·exact λe=>o.cells x a u e.symm
 let(m,j):=o.ns
 have O:Off X p k C R:=⟨⟨m,j.sameBut w y⟩,o.none,o.loc,o.new,o.cells,o.c6⟩
 exact⟨m,j.sameBut w y,λP r=>(I2b _ k (O.go b r) q)⟩
abbrev RF:V->Yd 0->Yd 0->Hp->VK->Prop:=λx lo hi H Q=>∃z,x=.str z/\z.l<=wa/\Q (.str<|Vl z lo hi) H
variable{v:gV}
def part_of{o:Yd 0}(h:IsPart v o):∃p,v=partValue p/\p.map (·.1)=o:=by
 cases h with
 |none=>exact I1b a9 rfl rfl
 |int i t=>exact I1b (a8 (i,t)) rfl rfl
def Pp:εz RF:=by
 rintro p s m H x v V n y i w Q I r S P U ⟨z,rfl,Z,q⟩;let(t,rfl):=r;let(l,rfl,rfl):=part_of P;let(u,rfl,rfl):=part_of U;let(o,(O),C,d):=S;show I2c ("str") _ PySem.F.slot_str_getitem.lookup (βs z t) ?_;show wpAny_getItem_str_slice (st:=a9) (I1c o O C d) rfl ?_;let e:sliceMade z t l u a9=if((1:Int) == 1&&(Xe _ _ 1 _).length == z.l)=true then Made.val _ else Made.str ⟨((Xe _ _ 1 _).filterMap _).toArray⟩:=rfl;let L:=Txt.slice_le z (l.map (·.1)) (u.map (·.1));unfold Vl at q L;rw[e];by_cases c:((1:Int) == 1&&(Xe (l.map (·.1)) (u.map (·.1)) 1 z.l).length == z.l)=true
 ·rw[Za 0]at q⊢;show I2c (.str z) H I ⟨t,rfl⟩ q
 ·rw[βh 0]at q L⊢;show(vz L Z,.str _,H,YT 0,⟨_,rfl⟩,q)
variable{es:k_ j_}
def gT{k:Nat}{t:TGs}(K)(H:X.K=K)(c:X.calm=true)(h:δl t)(N:wP ((βe 0).length=n) zn)(s:wP ((βe 0).findIdx? (·.1)=a9) zn):PG X (.Tuple es k pos) (Rl K n t):=by subst H;show OU c h N s
variable{e:j_}{f:gV->gV->Sem gV}{r':R2}{g:Int->Int->Int}
section
variable{a b:j_}{t t':TE}
def PE.imp(h:V_ e t)(i:∀z H Q,t' z H Q->t z H Q):V_ e t':=λp s z H Q I q=>Zx Q I<|i z H Q q
def PT.imp{t t':TT}(h:PT X e t)(i:∀z H Q,t' z H Q->t z H Q):PT X e t':=λp s z H Q I q=>Zx Q I<|i z H Q q
def OpR.imp{r:R2}(h:O_ f r)(i:∀x y H Q,r' x y H Q->ε3 Q):O_ f r':=λp s z H x y v u Q I R Y q=>Zx x y v u Q I R Y<|i x y H Q q
def cF.imp{f:gV}{r r':k_ V->Hp->VK->Prop}(h:δA f r)(i:∀x H Q,r' x H Q->r x H Q):δA f r':=λp s z H x u Q I R q=>Zx x u Q I R<|i x H Q q
abbrev cV(i:Nat):TE:=λσ H Q=>match EJ σ i with
 |some v=>Q v H
 |none=>False
def cv(i)(z:wP (X.N[i]?=a8 x) zn)(V:wP (αk x) v6)(d:wP ((x == ("__debug__" : Str))=false) xL)(c:wP ((x == ("__classdict__" : Str))=false) xL):V_ (.Name x pos) (cV i):=by
 show(yB z V d c).imp λy H Q h=>?_;unfold cV at h;cases e:EJ y i with
 |none=>rw[e]at h;show h.elim
 |some v=>rw[e]at h;show εC (yS e) h
abbrev RG(K:vj):R2:=λx y H Q=>match x,y with
 |.int i,.int j=>Q (.int<|i+j) H
 |.str i,.str j=>i.l+j.l<=wa/\Q (.str<|i++j) H
 |.ref _,.ref _=>Rz x y H Q\/Oe K x y H Q
 |_,_=>False
def Mx(K)(z:X.K=K):O_ (Vr .Add) (RG K):=by
 subst z;refine(P0.or<|EB.or<|Pk.or Mj).imp λx y H Q h=>?_;cases x <;> cases y <;> first
  |exact .inl (αF rfl rfl h)
  |exact .inr (.inl<|I2d _ _ rfl rfl h.1 h.2)
  |exact .inr (.inr h)
  |exact h.elim
abbrev Bn(C:Int->Int->Prop)(f:Int->Int->Int):R2:=λx y H Q=>match x,y with
 |.int i,.int j=>C i j/\Q (.int<|f i j) H
 |_,_=>False
abbrev Jg(f:Int->Int->Int):R2:=λx y H Q=>match x,y with
 |.int i,.int j=>Q (.int<|f i j) H
 |_,_=>False
def xI{C:Int->Int->Prop}(h:O_ f (rI C λi j=>.int<|g i j)):O_ f (Bn C g):=h.imp λx y H Q q=>by cases x <;> cases y <;> first|exact(I2d _ _ rfl rfl q.1 q.2)|exact q.elim
def Jh(h:O_ f (rI0 λi j=>.int<|g i j)):O_ f (Jg g):=h.imp λx y H Q q=>by cases x <;> cases y <;> first|exact(αF rfl rfl q)|exact q.elim
def My:O_ (Vr .Sub) (Jg λi j=>i-j):=Jh P3
def Mz:O_ (Vr .Mult) (Bn Ez λi j=>i*j):=xI P4
def MA:O_ (Vr .FloorDiv) (Bn IZ λi j=>i/j):=xI M3
def MB:O_ (Vr .Mod) (Bn (λ_ j=>0<j) λi j=>i%j):=xI P5
def MD:O_ (Vr .Pow) (Bn Hn λi j=>i ^ j.toNat):=xI P6
abbrev D8(f:Int->Int->Bool)(g:Z5 0->Z5 0->Bool):R2:=λx y H Q=>match x,y with
 |.int i,.int j=>Q (.bl<|f i j) H
 |.str i,.str j=>Q (.bl<|g i.cps.toList j.cps.toList) H
 |_,_=>False
def C5{p:Int->Int->Bool}{g:Z5 0->Z5 0->Bool}(h1:O_ f (rI0 λi j=>.bl<|p i j))(h2:O_ f (λx y H Q=>∃i j,x=.str i/\y=.str j/\Q (.bl<|g i.cps.toList j.cps.toList) H)):O_ f (D8 p g):=(h1.or h2).imp λx y H Q q=>by cases x <;> cases y <;> first|exact .inl (αF rfl rfl q)|exact .inr (αF rfl rfl q)|exact q.elim
def Pq:O_ (za .Lt) (D8 (λi j=>decide (i<j)) λi j=>decide (i<j)):=C5 Rp Ho
def Pr:O_ (za .Gt) (D8 (λi j=>decide (j<i)) λi j=>decide (j<i)):=C5 Rr λp s z H x y v u Q I r R h=>by let(i,j,rfl,rfl,q):=h;let(t,rfl):=r;let(T,rfl):=R;show PySem.P.gt_str<|yD I q rfl
def Pt:O_ (za .LtE) (D8 (λi j=>decide (i<=j)) λi j=>!decide (j<i)):=C5 Rq λp s z H x y v u Q I r R h=>by let(i,j,rfl,rfl,q):=h;let(t,rfl):=r;let(T,rfl):=R;show PySem.P.le_str<|yD I q rfl
end
variable{ta tb:TE}
section
variable{a b:j_}{t t':TE}
def Oh{x:V}{Q:Bool->Prop}(h:match x with|.bl c=>Q c|_=>False):∃c,x=.bl c/\Q c:=by cases x <;> first|exact(A0 rfl h)|exact h.elim
abbrev Ur(ta tb:TE):TE:=λσ H Q=>ε4 H λx H1=>match x with
 |.bl c=>if c=true then tb σ H1 Q else Q (.bl false) H1
 |_=>False
abbrev cOr(ta tb:TE):TE:=λσ H Q=>ε4 H λx H1=>match x with
 |.bl c=>if c=true then Q (.bl true) H1 else tb σ H1 Q
 |_=>False
def ME{rest:k_ j_}(A:V_ a ta)(hb:V_ (.BoolOp .And (b::rest) pos) tb):V_ (.BoolOp .And (a::b::rest) pos) (Ur ta tb):=by
 show λp s w H Q I h=>BoolOp_and<|thn (A p s w H _ I h) λv S z1=>E2c z1 λx z y r q=>?_;let(c,(z0),q):=Oh q;subst z0;subst r;show Xm ?_;cases c with
 |true=>exact hb p S w z Q y q
 |false=>exact I2c (.bl false) z y rfl q
def Pu{rest:k_ j_}(A:V_ a ta)(hb:V_ (.BoolOp .Or (b::rest) pos) tb):V_ (.BoolOp .Or (a::b::rest) pos) (cOr ta tb):=by
 show λp s w H Q I h=>BoolOp_or<|thn (A p s w H _ I h) λv S z1=>E2c z1 λx z y r q=>?_;let(c,(z0),q):=Oh q;subst z0;subst r;show Xm ?_;cases c with
 |true=>exact I2c (.bl true) z y rfl q
 |false=>exact hb p S w z Q y q
def MF(U:X.A.units+1<cLine):εA (λx y H Q=>∃p v,x=.ref p/\wY H p y (a8 v)/\Q v H):=by
 intro V l i s m H x y v u Q I n Y h o;let(p,w,(z0),g,q):=h;subst z0;subst n;show eg <|eg<|Xf (D5 I g) PySem.F.slot_dict_getitem.lookup ?_;let f:wpAny (c3 X) X.A (subscripted l false (.ref p) u) (λr S=>wpAny (c3 X) X.A (letTemporaryGo V (.ref p) r >>= λ_=>pure r) (EP X i m Q) X.xe S) X.xe s:=by rw[o];show wpAny_operating<|HA U I g Y λW k z R=>eg<|wpAny_letTemporaryGo<|vh<|I2c w H z R q
 first
  |exact vh (eg f)
  |exact eg _
  |exact eg f
abbrev RI(K:vj):R2:=λx y H Q=>match x with
 |.str z=>(match y with
  |.int i=>z.l<=wa/\∃c,βb i=a8 c/\Q (.str ⟨#[c]⟩) H
  |_=>False)
 |.ref p=>(∃xs i v,y=.int i/\(Yu p xs\/Yk p xs)/\βa i=a8 v/\Q v H)\/∃v,wY H p y (a8 v)/\Q v H
 |_=>False
def IxR.imp{r:R2}(h:εA r)(i:∀x y H Q,r' x y H Q->ε3 Q):εA r':=λa b p s z H x y v u Q I R Y q S=>h a b p s z H x y v u Q I R Y (i x y H Q q) S
def ixC(U:X.A.units+1<cLine)(K)(n:X.K=K):εA (RI K):=by
 subst n;show(Ml.or<|Pf.or<|Pg.or<|MF U).imp λx y H Q h=>?_;cases x with
 |str z=>
  cases y with
  |int i=>let⟨u,c,r,o⟩:=h;show .inr<|.inr<|.inl<|I3e z i c rfl rfl u r o
  |_=>exact h.elim
 |ref p=>
  rcases h with⟨S,i,v,rfl,s|s,w,q⟩|⟨v,g,q⟩
  ·show .inl (I4e p S i v rfl rfl s w q)
  ·show .inr (.inl<|I4e p S i v rfl rfl s w q)
  ·show .inr (.inr<|.inr<|I2c p v rfl g q)
 |_=>exact h.elim
abbrev Oi(K:vj):k_ V->Hp->VK->Prop:=λxs H Q=>match xs with
 |[.str y]=>y.l<=wa/\Q (.int y.l) H
 |[.ref p]=>(∃xs,(Yu p xs\/Yk p xs)/\Q (.int xs.l) H)\/∃kvs,H p=a8 (.dK kvs)/\Q (.int kvs.l) H
 |_=>False
def HG(K)(y:X.K=K):δA (.builtin "len") (Oi K):=by
 subst y;intro p s z H x u Q I r h;unfold Oi at h;split at h
 ·show J3 p s z H _ u Q I r (αF rfl ⟨h.1,rfl⟩ h.2)
 ·rcases h with⟨Y,S,q⟩|⟨k,S,q⟩
  ·show C2 p s z H _ u Q I r (I2c _ Y rfl S q)
  ·show HC p s z H _ u Q I r (I2c _ k rfl S q)
 ·show h.elim
abbrev RJ:k_ V->Hp->VK->Prop:=λxs H Q=>match xs with
 |[.int i,.int j]=>Q (.int<|if j>i then j else i) H
 |_=>False
def HH(c:X.calm=true):δA (.builtin "max") RJ:=(Hq c).imp λx H Q h=>by
 match x,h with
 |[.int i,.int j],h=>exact I2b i j rfl h
def EM(K)(h:X.K=K):δA (.type "list") (λx H Q=>∃p y,x=[.ref p]/\(Yu p y\/Yk p y)/\∀l,H l=a9->Q (.ref l) (x_ l<|.lst y)):=by subst h;show C3
def D9(K)(h:X.K=K):δA (.type "tuple") (λx H Q=>∃p y,x=[.ref p]/\((Yu p y/\∀l,H l=a9->Q (.ref l) (x_ l<|.tup y))\/(Yk p y/\Q (.ref p) H))):=by subst h;show AU
abbrev RK(ta:TA):TI:=λσ H R=>ε4 H λvs H1=>match vs with
 |[.int j]=>(-(2 ^ 62)<=j/\j<2 ^ 62)/\R (Itr 0 j.toNat) H1
 |_=>False
def MG{vs:k_ V}{Q:Int->Prop}(h:match vs with|[.int j]=>Q j|_=>False):∃j,vs=[.int j]/\Q j:=by
 split at h
 ·show(_,rfl,h)
 ·show h.elim
def pr1{x:j_}{ta:TA}{p:Pos}(g:Zu "range")(m:X.mg "range" = a9)(a:PA X [x] ta)(S:wP (wj [x] X.env=[(false,eval x X.env)]) zn):PI X tg (.Call (.Name "range" p) [x] [] pos) (RK ta):=by show λi s n H R I h=>Call_<|oE I g m boot_range<|Wn (thn (γV h) λU l z1=>E2c z1 λV z y o r=>?_) S rfl;let(j,(e),z0,q):=MG (Q:=λj=>(-(2 ^ 62)<=j/\j<2 ^ 62)/\R (Itr 0 _) z) r;let(w,v):=z0;subst e;let(u,rfl,t,rfl):=vals1 o;show call_range_1<|IY y ⋯ ⋯ w v (d0 q)
abbrev RL(t:TE):TO:=λσ H Q=>t σ H λx H1=>match x with
 |.int i=>Q (a8 i) H1
 |_=>False
def Ji{x:j_}(h:V_ x te):PO X (a8 x) (RL te):=by
 show λp s v H Q I w=>thn (h p s v H _ I w) λu S z0=>E2c z0 λx z y r q=>?_;cases x with
 |int i=>let⟨t,rfl⟩:=r;show I2c (a8 i) z y (.int i t) q
 |_=>exact q.elim
end
structure KpF(K:vj)(f:h_):Prop where
 kp:Vi K (.ref f)=true
structure Def(K:vj)(mg:d9 0)(x:Str)(st:ko)(f:h_)(fd:zy)(ps:k_ Str):Prop where
 fn:KpF K f
 mg:mg x=a_ f
 bd:Binds K fd ps []
def RM{f:h_}{k:Nat}{t:TA}{p:Pos}(D:Def X.K X.mg x st f fd ps)(G:z_ CX0 k f fd ps sp)(r:eD k X.A)(a:PA X (e::es) t)(g:wP (Zu x) zn)(h:wP ((x == ("__debug__" : Str))=false) xL)(H:wP (wj (e::es) X.env=(false,A5 0)::X2 0) zn)(l:wP ((H_<|wj es X.env).any (·.1)=false) zn):
  V_ (.Call (.Name x p) (e::es) [] pos) (J5 sp [] E0 t):=Mc G r g D.mg D.fn.kp D.bd .nil Bj a h H l
def hQ{α:Type}{xs:k_ α}{v:α}(h:xs[i]?=a8 v):βa (i)=a8 v:=by let H:=(vg.mp h).1;unfold atI ixN;rw[if_pos ⋯,if_pos ⋯];simpa using h
def wX.upd{o:HO}(h:H a=a9):wX H (Zt o):=λb u e=>by rw[aG<|bO e h];show e
def Def.mk'{h:jo}{y:Str}{f:h_}{oc:gV}{od:l7 h_}{kV:gV}(X:K.In h)(G:h.Ns y8 mg)(a:β8 x=a8 (a_ f))(l:K.lookup f=a8 ⟨oc,od,.func<|Vu y y (eI st) (bV st) (aM st) .none kV doc pm an cdv ct,osl⟩)(c:XN K cdv y=true)(k:Vi K (.ref f)=true)(b:∀(kV doc pm)(an)(cdv ct)(us),us.l=ps.l->bindArgs (Vu y y (eI st) (bV st) (aM st) .none kV doc pm an cdv ct) ⟨us,[]⟩=pure (ps.zip us)):
  Def K mg x st f (Vu y y (eI st) (bV st) (aM st) .none kV doc pm an cdv ct) ps:=
 ⟨⟨k⟩,Z6 a,(C4 l c k).binds b⟩
open PySem.SeqAt
inductive D where
 |non|bl (b:Bool)|int (i:Int)|str (x:Str)|tup (xs:k_ D)
mutual
def D.depth:D->Nat
 |.tup xs=>D.depths xs+1
 |_=>0
def D.depths:k_ D->Nat
 |[]=>0
 |x::xs=>max (D.depth x) (D.depths xs)
end
mutual
def eqD:D->D->Bool
 |.non,.non=>true
 |.bl a,.bl b=>a == b
 |.bl a,.int b=>(if a then 1 else 0) == b
 |.int a,.bl b=>a == (if b then 1 else 0)
 |.int a,.int b=>a == b
 |.str a,.str b=>a == b
 |.tup xs,.tup ys=>HJ xs ys
 |_,_=>false
def HJ:k_ D->k_ D->Bool
 |[],[]=>true
 |x::xs,y::ys=>eqD x y&&HJ xs ys
 |[],_::_=>false
 |_::_,[]=>false
end
mutual
def ltD:D->D->β9 0
 |.int a,.int b=>a8 (decide (a<b))
 |.str a,.str b=>a8 (decide (a.cps.toList<b.cps.toList))
 |.tup xs,.tup ys=>Da xs ys
 |_,_=>a9
def Da:k_ D->k_ D->β9 0
 |[],[]=>γL 0
 |[],_::_=>a8 true
 |_::_,[]=>γL 0
 |x::xs,y::ys=>if eqD x y=true then Da xs ys else ltD x y
end
abbrev oG(H H':Hp):Prop:=∀a xs,γm (.tup xs)->Rd H' a (.tup xs)
def oG.refl(H:Hp):oG H H:=λ_ _ h=>h
variable{H1 H2:Hp}
def oG.trans(a:oG H H1)(b:oG H1 H2):oG H H2:=λc x h=>b c x<|a c x h
def oG.same(s:wX H H'):oG H H':=λa x h=>by
 rcases h with h|⟨o,h⟩
 ·show .inl (s _ _ h)
 ·show .inr ⟨o,s _ _ h⟩
abbrev yT:l7 HO->Prop
 |some (.tup _)=>False
 |some (.frz _ _)=>False
 |_=>True
def oG.upd{p:h_}{o:HO}(h:yT (H p)):oG H (x_ p o):=λa x q=>by
 let n:a≠p:=by
  rintro rfl;rcases q with q|⟨b,q⟩
  ·rw[q]at h;show h
  ·rw[q]at h;show h
 rcases q with q|⟨b,q⟩
 ·show .inl (by rw[aG n];show q)
 ·show .inr ⟨b,by rw[aG n];show q⟩
def oG.sq{xs:k_ V}(t:oG H H')(h:Yk a xs):SqT K H' a xs:=by
 rcases h with h|h
 ·show .inl (t a xs h)
 ·show .inr h
variable{b:Bool}
section
variable{σ:St}
def rK(h:RcAt A s v u b)(S:v=u->b=true)(F:∀f t,v≠.float f t):βK v u b:=λp w E Q q=>by
 show yq <|wpAny_ite_split (λa=>?_)<|λ_=>?_
 ·let e:=S<|eq_of_beq a;subst e;show eg<|W5<|vh q
 ·cases v <;> first|exact absurd rfl (F _ _)|exact eg (h p w E _<|Xm q)|(cases u <;> exact eg _)
end
open PySem
abbrev keyLt:αD 0->αD 0->Bool
 |.inl a,.inl b=>decide (a<b)
 |.inr a,.inr b=>decide (a.cps.toList<b.cps.toList)
 |_,_=>false
abbrev rN:k_ (αD 0)->k_ (αD 0)->Bool
 |[],[]=>false
 |[],_::_=>true
 |_::_,[]=>false
 |x::xs,y::ys=>if x=y then rN xs ys else keyLt x y
abbrev Gd:αD 0->Bool
 |.inl _=>true
 |.inr _=>false
@[reducible]def shape(ks:k_ (αD 0)):k_ Bool:=ks.map Gd
def Ge{a b:Str}(h:a.cps.toList=b.cps.toList):a=b:=by
 cases a;cases b
 congr;show Array.toList_inj.mp h
def HK{a b:αD 0}(k:Gd a=Gd b)(h:keyLt a b=false)(h':keyLt b a=false):a=b:=by
 cases a <;> cases b <;> cases k
 ·let H:=of_decide_eq_false h;let z:=of_decide_eq_false h';congr 1;omega
 ·congr 1;show Ge<|List.le_antisymm (XJ.mp<|of_decide_eq_false h')<|XJ.mp<|of_decide_eq_false h
def yU:∀{a b:k_ (αD 0)},shape a=shape b->rN a b=false->rN b a=false->a=b
 |[],[],_,_,_=>rfl
 |[],_::_,s,_,_=>by cases s
 |_::_,[],s,_,_=>by cases s
 |x::X,y::Y,s,h,H=>by
  unfold rN at h H;by_cases e:x=y
  ·subst e;rw[if_pos rfl]at h H;rw[yU (by simpa using congrArg List.tail s) h H]
  ·rw[Z4 0]at h;rw[if_neg λz=>e z.symm]at H;show absurd (HK (by simp_all) h H) e
open PySem PySem.W PyProof.Rows
section
variable(lt:Nat->Nat->Bool)
abbrev evT{α:Type}:KasT α->α
 |.ret a=>a
 |.ask i j k=>evT (k<|lt i j)
def lJ{α β:Type}(f:α->KasT β):∀t,s_ (t.bind f)=s_ (f<|evT lt t)
 |.ret _=>rfl
 |.ask i j k=>lJ f (k _)
@[reducible]def pa'(p:Yy 0)(i:Nat):Nat:=p.getD i 0
abbrev STo(p:Yy 0)(k:Nat):Prop:=∀i j,i<=j->j<k->lt (Yb j) (Yb i)=false
abbrev NIc(p:Yy 0)(k:Nat):Prop:=∀i j,i<=j->j<k->lt (Yb i) (Yb j)=false
end
def mQ{p:Yy 0}:Yb i=(p[i]?).getD 0:=by simp
structure Jj(lt:Nat->Nat->Bool)(p:Array Nat)(n f:Nat)(r:Array Nat×Nat×Nat):Prop where
 perm:r.1.Perm p
 lo:n<=r.2.1
 hi:r.2.1<=n+f
 q:r.2.2+1<=r.2.1
 ni:NIc lt r.1 r.2.1
 eq:∀i j,r.2.1-(r.2.2+1)<=i->i<r.2.1->r.2.1-(r.2.2+1)<=j->j<r.2.1->lt (pa' r.1 i) (pa' r.1 j)=false
variable{aa:Nat}
section
variable{lt:Nat->Nat->Bool}(tr:∀i j k,lt j i=false->lt k j=false->lt k i=false)(as:∀i j,lt i j=true->lt j i=false)
include as in
def hU(i:Nat):lt i i=false:=by
 cases h:lt i i with
 |false=>rfl
 |true=>have:=as i i h;rw[h]at this;show this
include tr as
def EN(p):∀f n,1<=n->βv p n->n<=s_ (Zy f n)/\s_ (Zy f n)<=n+f/\βv p (s_<|kas_asc p f n)
 |0,n,_,h=>⟨vk _,vk _,h⟩
 |f+1,n,y,h=>by
  let e:s_ (Zy (f+1) n)=s_ (if lt _ (δp 0)=true then KasT.ret n else kas_asc p f _):=rfl;rw[e];by_cases c:lt (δq 0) (p.getD (n-1) 0)=true
  ·rw[Za 0];show(vk _,W4 _ _,h)
  ·rw[βh 0];let z:βv p (n+1):=λi j H J=>by
    rcases VG (yl J) with J|rfl
    ·show h i j H J
    ·rcases VG H with I|rfl
     ·show ZM (h i (j-1) ⋯ ⋯) (d0 c)
     ·show ζe _
   let((a),b,c):=EN p f _ ⋯ z;show(⋯,⋯,c)
def rev_eq{p:Yy 0}{a:Nat}(N:n<=p.size)(e:∀i j,a<=i->i<n->a<=j->j<n->lt (Yb i) (Yb j)=false)(i j):
  lt (pa' (Z0 a n) i) (pa' (Z0 a n) j)=lt (Yb i) (Yb j):=by
 let g:∀k,pa' (Z0 a n) k=if a<=k/\k<n then pa' p (a+n-1-k) else Yb k:=λk=>by rw[mQ,mQ,mQ];unfold kas_rev;rw[getElem?_mirror_all N];split <;> rfl
 let s:∀k,∃K,pa' (Z0 a n) k=Yb K/\lt (Yb k) _=false/\lt _ (Yb k)=false:=λk=>by
  rw[g];by_cases h:a<=k/\k<n
  ·rw[αR 0];show βw rfl (e _ _ h.1 h.2 ⋯ ⋯)<|e _ _ ⋯ ⋯ h.1 h.2
  ·rw[ZU 0];show I1c k rfl (ζe _)<|hU as _
 let(v,(E),I,y):=s i;let(u,(J),x,w):=s j;rw[E,J];cases H:lt (Yb i) _ with
 |false=>exact ZM x<|tr _ _ _ H y
 |true=>
  cases z:lt _ _ with
  |true=>rfl
  |false=>have:=ZM w<|tr _ _ _ z I;rw[H]at this;show this.symm
def C6:∀f (p) n q,n+f<=p.size->q+1<=n->ζf n->(∀i j,n-(q+1)<=i->i<n->n-(q+1)<=j->j<n->lt (Yb i) (Yb j)=false)->Jj lt p n f (s_<|kas_desc f p n q)
 |0,p,n,q,_,Q,N,E=>⟨Xg _,vk _,vk _,Q,N,E⟩
 |f+1,p,n,q,S,Q,N,E=>by
  let e:s_ (kas_desc (f+1) p n q)=s_ (if lt _ (δp 0)=true then(if q>0 then kas_desc f (Z0 _ n) _ 0 else kas_desc f p _ 0)
    else .ask (δp 0) _ λd=>if d=true then .ret _ else kas_desc f p _ _):=rfl
  let t:n+1+f=n+(f+1):=by rw[Nat.add_assoc,Nat.add_comm 1]
  by_cases c:lt (δq 0) (p.getD (n-1) 0)=true
  ·let o:∀P,P.Perm p->(∀i j,lt (pa' P i) _=lt _ _)->s_ (kas_desc (f+1) p n q)=s_ (kas_desc f P (n+1) 0)->Jj lt p n _ (s_<|kas_desc _ p n q):=λP W T V=>by
    let y:NIc lt P _:=λi j H h=>by
     rw[T];rcases VG (yl h) with h|rfl
     ·show N i j H h
     ·rcases VG H with I|rfl
      ·show ZM (as _ _ c) (N i _ (We I)<|zr I)
      ·show ζe _
    let z:∀i j,n+1-(0+1)<=i->i<n+1->n+1-(0+1)<=j->j<n+1->lt (pa' P i) _=false:=λi j x r w m=>by have:=(VH (yl r) x).trans (VH (yl m) w).symm;subst this;show ζe _
    let u:=C6 f P (n+1) 0 (by rw[W.size_eq,t];show S) (Wr<|w6 n) y z;rw[<-V]at u;let(A,k,g,Z,Y,X):=u;show(A.trans W,Vx k,t▸g,Z,Y,X)
   rw[Za 0]at e;by_cases v:q>0
   ·rw[if_pos v]at e;show o _ (γu _) (rev_eq tr as ⋯ E) e
   ·rw[if_neg v]at e;show o p (Xg _) (λ_ _=>rfl) e
  ·rw[βh 0]at e;let C:lt (δq 0) (p.getD (n-1) 0)=false:=by simpa using c
   let s:s_ _=s_ (if lt _ _=true then KasT.ret _ else kas_desc f p (n+1) (q+1)):=e;by_cases d:lt (p.getD (n-1) 0) (δq 0)=true
   ·rw[if_pos d]at s;rw[s];show(Xg _,vk _,W4 _ _,Q,N,E)
   ·rw[if_neg d]at s;let D:lt (p.getD (n-1) 0) (δq 0)=false:=by simpa using d
    let y:ζf (n+1):=λi j H h=>by
     rcases VG (yl h) with h|rfl
     ·show N i j H h
     ·rcases VG H with I|rfl
      ·show ZM D (N i (j-1) (We I)<|zr I)
      ·show ζe _
    let z:∀i j,n+1-(q+1+1)<=i->i<n+1->n+1-(q+1+1)<=j->j<n+1->lt (Yb i) (Yb j)=false:=λi j x r w m=>by
     rw[Nat.add_sub_add_right]at x w;let U:=zr<|wb (Nat.succ_pos q) Q;let L:=Nat.sub_le_sub_left (Nat.le_add_left 1 q) n;let l:∀{i},i<n+1->i≠n->i<n:=λa b=>Xa (yl a) b;by_cases I:i=n
     ·by_cases h:j=n
      ·rw[I,h];show ζe _
      ·rw[I];show ZM (E (n-1) j L U w<|l m h) C
     ·by_cases h:j=n
      ·rw[h];show ZM D<|E i (n-1) x (l r I) L U
      ·show E i j x (l r I) w (l m h)
    let u:=C6 f p (n+1) (q+1) (t▸S) (Wr Q) y z;rw[<-s]at u;let(A,k,g,Z,Y,X):=u;show(A,Vx k,t▸g,Z,Y,X)
def Dc{p:Yy 0}(h1:1<=n)(z:n<=aa)(hz:aa<=p.size)(N:ζf n):
  n<=(s_<|kas_tail3 n aa p).1/\(s_<|kas_tail3 n aa p).1<=aa/\(s_<|kas_tail3 n aa p).2.Perm p/\βv (s_<|kas_tail3 n aa p).2 (s_<|kas_tail3 n aa p).1:=by
 let e:s_ (kas_tail3 n aa p)=(s_<|kas_asc (Z0 0 n) (aa-n) n,Z0 0 n):=by unfold kas_tail3;rw[lJ];rfl
 let g:∀k,k<n->pa' (Z0 0 n) k=Yb (n-1-k):=λk K=>by
  rw[mQ,mQ];unfold kas_rev;rw[getElem?_mirror_all ⋯,if_pos ⋯];congr 2;omega
 let S:βv _ n:=λi j h H=>by rw[g i<|y3 h H,g j H];show N _ _ (Nat.sub_le_sub_left h _)<|y3 (βx _)<|zr H
 let(a,b,c):=EN tr as _ _ n h1 S;rw[Nat.add_sub_of_le z]at b;rw[e];show(a,b,γu _,c)
def wG{p:Yy 0}(h1:1<=n)(v:n+1<=aa)(hz:aa<=p.size)(w:ζf n)(d:lt (Yb n) (Yb<|n-1)=true):
  1<=(s_<|kas_descPart n aa p).1/\(s_<|kas_descPart n aa p).1<=aa/\(s_<|kas_descPart n aa p).2.Perm p/\βv (s_<|kas_descPart n aa p).2 (s_<|kas_descPart n aa p).1:=by
 let N:ζf _:=λi j h H=>by
  rcases VG (yl H) with H|rfl
  ·show w i j h H
  ·rcases VG h with I|rfl
   ·show ZM (as _ _ d) (w i _ (We I)<|zr I)
   ·show ζe _
 let E:∀i j,n+1-(0+1)<=i->i<n+1->n+1-(0+1)<=j->j<n+1->lt (Yb i) _=false:=λi j h1 m l k=>by have:=(VH (yl m) h1).trans (VH (yl k) l).symm;subst this;show ζe _
 let D:=C6 tr as _ p (n+1) 0 (by rw[Nat.add_sub_of_le v];show hz) (Wr<|w6 n) N E;let e:s_ (kas_descPart n aa p)=s_ (if(s_<|kas_desc (aa-(n+1)) p (n+1) 0).2.2>0 then kas_tail3 (s_<|kas_desc (aa-(n+1)) p (n+1) 0).2.1 aa (kas_rev (s_<|kas_desc (aa-(n+1)) p (n+1) 0).1 ((s_<|kas_desc (aa-(n+1)) p (n+1) 0).2.1-((s_<|kas_desc (aa-(n+1)) p (n+1) 0).2.2+1)) (s_<|kas_desc (aa-(n+1)) p (n+1) 0).2.1) else kas_tail3 (s_<|kas_desc (aa-(n+1)) p (n+1) 0).2.1 aa (s_<|kas_desc (aa-(n+1)) p (n+1) 0).1):=by unfold kas_descPart;rw[lJ]
 generalize evT lt (kas_desc _ p _ 0)=r at D e;let(a,u,A,g,x,t):=D;let s:aa<=r.1.size:=by rw[a.size_eq];show hz
 rw[Nat.add_sub_of_le v]at A;let o:=vz (Wr<|w6 n) u;rw[e];by_cases q:r.2.2>0
 ·rw[if_pos q];let((b),B,z,y):=(Dc tr as (p:=kas_rev r.1 (r.2.1-(r.2.2+1)) r.2.1) o A (by unfold kas_rev;rw[mirror_size];show s) (λi j h H=>by rw[rev_eq tr as ⋯ t];show x i j h H));show I0d (vz o b) B ((z.trans<|Xh _ _ _ _).trans a) y
 ·rw[if_neg q];let((b),B,z,y):=Dc tr as o A s x;show I0d (vz o b) B (z.trans a) y
def yV(p):∀f n,1<=n->s_ (Zy f n)<n+f->lt (Yb<|evT lt<|kas_asc p f n) (Yb<|evT lt (Zy f n)-1)=true
 |0,n,_,h=>Y2 (VO _)
 |f+1,n,H,h=>by
  let e:s_ (Zy (f+1) n)=s_ (if lt _ (δp 0)=true then KasT.ret n else kas_asc p f _):=rfl;rw[e]at h⊢;by_cases c:lt (δq 0) (p.getD (n-1) 0)=true
  ·rw[Za 0];show c
  ·rw[βh 0]at h⊢;show yV p f _ ⋯ ⋯
def Jk{p:Yy 0}(h1:1<=aa)(hz:aa<=p.size):
  1<=(s_<|kas_count aa p).1/\(s_<|kas_count aa p).1<=aa/\(s_<|kas_count aa p).2.Perm p/\βv (s_<|kas_count aa p).2 (s_<|kas_count aa p).1:=by
 let r:βv p 1:=λi j h H=>by have:=(Nat.le_zero.mp<|vz h<|yl H).trans (Nat.le_zero.mp<|yl H).symm;subst this;show ζe _
 let(a,b,c):=EN tr as p _ 1 (vk _) r;let s:=yV tr as p (aa-1) 1<|vk _;let e:s_ (kas_count aa p)=s_ (if(s_ (Zy (aa-1) 1) == aa)=true then .ret (s_<|kas_asc p (aa-1) 1,p) else if s_ (Zy (aa-1) 1)>1 then .ask (p.getD 0 0) (p.getD (s_ (Zy (aa-1) 1)-1) 0) λc=>if c=true then .ret (s_<|kas_asc p (aa-1) 1,p) else kas_descPart (s_<|kas_asc p (aa-1) 1) aa (Z0 0<|evT lt<|kas_asc p (aa-1) 1) else kas_descPart (s_<|kas_asc p (aa-1) 1) aa p):=by unfold kas_count;rw[lJ]
 generalize evT lt (Zy _ 1)=n at a b c e s;rw[Nat.add_sub_of_le h1]at b s;rw[e];by_cases N:(n == aa)=true
 ·rw[if_pos N];show(a,b,Xg _,c)
 ·rw[if_neg N];let l:=Xa b<|d0 N;let t:=s l;by_cases x:n>1
  ·rw[if_pos x];let E:∀k:Bool->KasT (Nat×Yy 0),s_ (.ask (p.getD 0 0) (p.getD (n-1) 0) k)=s_ (k<|lt _<|p.getD _ 0):=λ_=>rfl;rw[E];by_cases z:lt (p.getD 0 0) (p.getD (n-1) 0)=true
   ·rw[β6 0];show(a,b,Xg _,c)
   ·rw[γN 0];let q:∀i j,0<=i->i<n->0<=j->j<n->lt _ _=false:=λi j _ I _ H=>by show ZM (c j _ (We H)<|zr H) (ZM (d0 z)<|c 0 i (w6 _) I)
    let L:=rev_eq tr as (vz b hz) q;let((B),w,v,u):=(wG tr as (p:=Z0 0 n) a l (by unfold kas_rev;rw[mirror_size];show hz) (λi j h H=>by rw[L];show q i j (w6 _) (y3 h H) (w6 _) H) (by rw[L];show t));show I0d B w (v.trans<|Xh _ _ _ _) u
  ·let y:=VH (Nat.not_lt.mp x) a;subst y;show wG tr as (vk _) l hz (λi j h H=>by have:=(Nat.le_zero.mp<|vz h<|yl H).trans (Nat.le_zero.mp<|yl H).symm;subst this;show ζe _) t
def yW(p)(k)(S:βv p k):∀f l r,r-l<=f->l<=r->r<=k->(∀i,i<l->lt (Yb k) (Yb i)=false)->(∀i,r<=i->i<k->lt (Yb k) (Yb i)=true)->
  l<=s_ (YD f l r)/\s_ (YD f l r)<=k/\(∀i,i<s_ (YD f l r)->lt (Yb k) (Yb i)=false)/\(∀i,s_ (YD f l r)<=i->i<k->lt (Yb k) (Yb i)=true)
 |0,l,r,F,L,H,z,y=>by have:=VH L<|Nat.le_of_sub_eq_zero<|Nat.le_zero.mp F;subst this;show I0d (vk _) H z y
 |f+1,l,r,F,L,H,z,y=>by
  let e:s_ (YD (f+1) l r)=s_ (if l >= r then .ret l else .ask _ (δp 0) λc=>if c=true then kas_place p k f l _ else kas_place p k f _ r):=rfl;rw[e];by_cases h:l >= r
  ·rw[αR 0];have:=VH L h;subst this;show I0d (vk _) H z y
  ·rw[ZU 0];let M:l<=(l+r)/2/\(l+r)/2<r:=by clear z y;omega
   generalize _/2=md at M⊢;let(x,m):=M;let E:∀q:Bool->KasT Nat,s_ (.ask _ (p.getD md 0) q)=s_ (q<|lt (p.getD k 0) _):=λ_=>rfl;rw[E];by_cases c:lt (p.getD k 0) (p.getD md 0)=true
   ·rw[Za 0];show yW p k S f l md ⋯ x (vz (yw m) H) z λi I K=>?_;cases q:lt _ _ with
    |true=>rfl
    |false=>
     have:=ZM (S md i I K) q;rw[show lt _ _=true from c]at this
     show this.symm
   ·rw[βh 0];let C:lt (Yb k) (Yb md)=false:=by simpa using c
    let(b,B,w,v):=yW p k S f (md+1) r ⋯ m H (λi I=>by
     cases q:lt _ _ with
     |false=>rfl
     |true=>
      exfalso;have:lt (Yb k) (Yb i)=false:=by
       -- p[mid]<=p[k] (C),p[i]<=p[mid]
       show ZM (S i md (yl I)<|wb m H) C
      rw[q]at this
      exists this) y
    show I0d (vz x<|Vx b) B w v
def Jl:∀f (p) k,1<=k->k+f<=p.size->βv p k->(s_<|kas_bin f p k).Perm p/\βv (s_<|kas_bin f p k) (k+f)
 |0,p,k,_,_,h=>⟨Xg _,h⟩
 |f+1,p,k,q,Z,h=>by
  let e:s_ (kas_bin (f+1) p k)=s_ (kas_bin f (γY<|k-s_ (YD k 0 k))<|k+1):=by
   change s_ ((YD k 0 k).bind λl=>kas_bin f (γY _) _)=_
   rw[lJ]
  let E:k+1+f=k+(f+1):=by rw[Nat.add_assoc,Nat.add_comm 1]
  let((t),b,B,v):=yW tr as p k h k 0 k (βx _) (w6 _) (vk _) (λi w=>absurd w<|Nat.not_lt_zero _)<|λi w r=>absurd r<|Nat.not_lt.mpr w;generalize evT lt (YD k 0 k)=l at e t b B v;let g:∀i,pa' (γY<|k-l) i=if i=l then pa' p k else if l<i/\i<=k then pa' p (i-1) else Yb i:=λi=>by
   rw[mQ,mQ,mQ,mQ,getElem?_bubble ⋯ _ ⋯];rw[Nat.sub_sub_self b];split
   ·rfl
   ·split <;> rfl
  let S:βv (γY _) (k+1):=λi j I s=>by
   rw[g i,g j];let K:=yl s;by_cases J:j=l
   ·by_cases H:i=l
    ·rw[if_pos J,βf 0];show ζe _
    ·rw[if_pos J,γM 0,if_neg λz=>Nat.not_lt.mpr (J▸I) z.1];show B i<|Xa (J▸I) H
   ·rw[if_neg J];by_cases H:i=l
    ·let z:=Xa (H▸I)<|xy J;rw[βf 0,if_pos ⟨z,K⟩];show as _ _<|v _ (We z)<|wb (zr z) K
    ·rw[γM 0];by_cases y:l<j/\j<=k
     ·rw[if_pos y];by_cases x:l<i/\i<=k
      ·rw[if_pos x];show εB (Nat.sub_le_sub_right I 1)<|wb (zr y.1) K
      ·rw[if_neg x];show εB (We<|y3 (Nat.not_lt.mp λz=>x ⟨z,vz I K⟩) y.1)<|wb (zr y.1) K
     ·rw[if_neg y,if_neg λz=>y ⟨wb z.1 I,K⟩];show εB I<|wb (Xa (Nat.not_lt.mp λz=>y ⟨z,K⟩) J) b
  let u:=Jl f (γY _) (k+1) (Wr<|w6 k) (by rw[bubble_size,E];show Z) S;rw[e];show(u.1.trans<|bubble_perm _ _ _,E▸u.2)
def MH(h1:1<=n):(s_<|kas_sort n).toList.Perm (xf n)/\(s_<|kas_sort n).toList.Pairwise (λi j=>lt j i=false):=by
 let e:s_ (kas_sort n)=s_ (if(s_<|kas_count n<|Wv<|xf n).1<n then kas_bin (n-max (s_<|kas_count n<|Wv<|xf n).1 1) (s_<|kas_count n<|Wv<|xf n).2 (max (s_<|kas_count n<|Wv<|xf n).1 1) else .ret (s_<|kas_count n<|Wv<|xf n).2):=by unfold kas_sort;rw[lJ]
 let((z),y,a,A):=(Jk tr as (p:=Wv<|xf n) h1<|by simp);generalize evT lt (kas_count n<|Wv _)=r at e z y a A;let f:∀p,p.Perm (Wv<|xf n)->βv p n->p.toList.Perm _/\p.toList.Pairwise (λi j=>lt j i=false):=λp P s=>by
  let S:p.size=n:=by rw[P.size_eq];simp
  show(by simpa using εD 0,?_)
  rw[zp];intro i j x w I;let H:i<p.size:=by simpa using x
  let J:j<p.size:=by simpa using w
  have:=s i j (yw I) ⋯;simpa[pa',Array.getD,H,J] using this
 rw[e];by_cases h:r.1<n
 ·rw[αR 0];let m:max r.1 1=r.1:=⋯;rw[m];let(B,b):=Jl tr as (n-r.1) r.2 r.1 z (by rw[a.size_eq];simp;omega) A;show f _ (B.trans a) ?_;rw[show r.1+(n-r.1)=n by omega]at b;show b
 ·rw[ZU 0];have:r.1=n:=⋯;show f _ a<|this▸A
end
open PySem.SeqAt PySem.W
abbrev InP{α:Type}(n:Nat)(P:α->Prop):KasT α->Prop
 |.ret a=>P a
 |.ask i j k=>i<n/\j<n/\∀b,γa P<|k b
def InP.bind{α β:Type}{P:α->Prop}{Q:β->Prop}{f:α->KasT β}:∀{t:KasT α},γa P t->(∀a,P a->γa Q (f a))->γa Q (t.bind f)
 |.ret a,h,H=>H a h
 |.ask i j k,⟨z,y,x⟩,H=>⟨z,y,λb=>InP.bind (x b) H⟩
def InP.mono{α:Type}{P Q:α->Prop}(q:∀a,P a->Q a):∀{t:KasT α},γa P t->γa Q t
 |.ret a,h=>q a h
 |.ask i j k,⟨H,z,y⟩=>⟨H,z,λb=>InP.mono q (y b)⟩
abbrev AllLt(n:Nat)(p:Yy 0):Prop:=∀k,p.getD k 0<n
def AllLt.of{p q:Yy 0}(h:Zj p)(g:∀k:Nat,q[k]?=a9\/∃K:Nat,q[k]?=p[K]?)(N:0<n):Zj q:=λk=>by
 let e:∀(r:Yy 0) k,r.getD k 0=(r[k]?).getD 0:=λr k=>by simp
 rw[e];rcases g k with H|⟨K,H⟩
 ·rw[H];show N
 ·rw[H,<-e];show h K
def AllLt.perm{p q:Yy 0}(h:Zj p)(P:q.Perm p)(N:0<n):Zj q:=by
 show AllLt.of h (λk=>?_) N;cases e:q[k]? with
 |none=>exact .inl rfl
 |some v=>
  right;let M:v∈q.toList:=by
   have:q.toList[k]?=a8 v:=by simpa using e
   show xw this
  let(K,H):=List.mem_iff_getElem?.mp<|(εD 0).mem_iff.mp M;show(K,by rw[<-H];simp)
section
variable(hn:0<n)
include hn
def C7{p:Yy 0}(h:Zj p):∀f m,γa (λ_=>True) (Zy f m)
 |0,m=>trivial
 |f+1,m=>⟨h _,h _,λb=>by
  cases b with
  |true=>exact trivial
  |false=>exact C7 h f _⟩
def tN:∀f (p) m q,Zj p->γa (λr=>Zj r.1) (kas_desc f p m q)
 |0,p,m,q,h=>h
 |f+1,p,m,q,h=>⟨h _,h _,λb=>by
  cases b with
  |true=>
   by_cases H:q>0
   ·rw[βf 0];show tN f _ _ _<|h.perm (γu _) hn
   ·rw[γM 0];show tN f _ _ _ h
  | false=>exact ⟨h _,h _,fun d=>by
    cases d with
    |true=>exact h
    |false=>exact tN f _ _ _ h⟩⟩
def Bo{p:Yy 0}(h:Zj p)(m r):γa (λx=>Zj x.2) (kas_tail3 m r p):=by show InP.bind (C7 hn (h.perm (γu _) hn) _ _) λa _=>h.perm (γu _) hn
def tO{p:Yy 0}(h:Zj p)(m r):γa (λx=>Zj x.2) (kas_descPart m r p):=by
 show InP.bind (tN hn _ _ _ _ h) λa H=>?_;by_cases q:a.2.2>0
 ·rw[if_pos q];show Bo hn (H.perm (γu _) hn) _ _
 ·rw[if_neg q];show Bo hn H _ _
def HL{p:Yy 0}(h:Zj p)(r):γa (λx=>Zj x.2) (kas_count r p):=by
 show InP.bind (C7 hn h _ _) λa _=>?_;by_cases H:(a == r)=true
 ·rw[βf 0];show h
 ·rw[γM 0];by_cases z:a>1
  ·rw[β6 0];show⟨h _,h _,λb=>by
    cases b with
    |true=>exact h
    |false=>exact tO hn (h.perm (γu _) hn) _ _⟩
  ·rw[γN 0];show tO hn h _ _
def uX{p:Yy 0}(h:Zj p)(k):∀f l r,γa (λ_=>True) (YD f l r)
 |0,l,r=>trivial
 |f+1,l,r=>by
  change γa _ (if l >= r then .ret l else .ask _ (δp 0) λc=>if c=true then kas_place p k f l _ else kas_place p k f _ r)
  by_cases H:l >= r
  ·rw[βf 0];show trivial
  ·rw[γM 0];show⟨h _,h _,λb=>by
    cases b with
    |true=>exact uX h k f _ _
    |false=>exact uX h k f _ _⟩
def Gf:∀f (p) k,Zj p->γa (λ_=>True) (kas_bin f p k)
 |0,p,k,_=>trivial
 |f+1,p,k,h=>InP.bind (uX hn h k _ _ _) λl _=>Gf f _ _ (h.perm (bubble_perm _ _ _) hn)
def yX:γa (λ_=>True) (kas_sort n):=by
 let z:Zj (Wv<|xf n):=λk=>by
  by_cases H:k<n
  ·simp[Array.getD,H]
  ·simp[Array.getD,H,hn]
 show InP.bind (HL hn z n) λr R=>?_;by_cases h:r.1<n
 ·rw[αR 0];show Gf hn _ _ _ R
 ·rw[ZU 0];show trivial
end
def yY{α:Type}{n:Nat}{cmp:Nat->Nat->(c9 Bool)->g_->Prop}{lt:Nat->Nat->Bool}{s:g_}(c:∀i j C,i<n->j<n->C (lt i j) s->cmp i j C s){Q:α->g_->Prop}{P:α->Prop}:
  ∀{t:KasT α},γa P t->Q (s_ t) s->t.kasWp cmp Q s
 |.ret _,_,h=>h
 |.ask i j k,⟨H,z,y⟩,h=>c i j _ H z (yY c (y _) h)
abbrev ltX(n:Nat)(lt:Nat->Nat->Bool)(i j:Nat):Bool:=if i<n then(if j<n then lt i j else true) else false
def Pv{lt:Nat->Nat->Bool}(t:∀i j k,i<n->j<n->k<n->lt j i=false->lt k j=false->lt k i=false)(i j k)(h1:ζg j i=false)(h2:ζg k j=false):ζg k i=false:=by
 unfold ltX at*;by_cases h:i<n <;> by_cases H:j<n <;> by_cases K:k<n <;> simp[h,H,K]at h1 h2⊢ <;> exact t i j k h H K h1 h2
def Pw{lt:Nat->Nat->Bool}(as:∀i j,i<n->j<n->lt i j=true->lt j i=false)(i j)(h:ζg i j=true):ζg j i=false:=by
 unfold ltX at*;by_cases H:i<n <;> by_cases J:j<n <;> simp[H,J]at h⊢ <;> exact as i j H J h
def Bp{α:Type}{n:Nat}{lt lt':Nat->Nat->Bool}(h:∀i j,i<n->j<n->lt i j=lt' i j){P:α->Prop}:∀{t:KasT α},γa P t->s_ t=evT lt' t
 |.ret _,_=>rfl
 |.ask i j k,⟨H,z,y⟩=>by
  change s_ (k _)=evT lt' (k _)
  rw[h i j H z];show Bp h<|y _
def De{lt:Nat->Nat->Bool}(t:∀i j k,i<n->j<n->k<n->lt j i=false->lt k j=false->lt k i=false)(as:∀i j,i<n->j<n->lt i j=true->lt j i=false)(h1:1<=n):
  (s_<|kas_sort n).toList.Perm (xf n)/\(s_<|kas_sort n).toList.Pairwise (λi j=>lt j i=false):=by
 let e:s_ _=evT (ltX n lt) _:=Bp (λi j H J=>by unfold ltX;rw[βf 0,if_pos J])<|yX ⋯;let(a,b):=MH (Pv t) (Pw as) h1;rw[e];show(a,b.imp_of_mem λ{i j} H J h=>?_);unfold ltX at h;rw[if_pos<|by simpa using a.mem_iff.mp J,if_pos<|by simpa using a.mem_iff.mp H]at h
 show h
variable{κ:SortKind}
def wZ{P:PySem.Fin->g_->Prop}(lt:Nat->Nat->Bool)(tr:∀i j k,i<vs.l->j<vs.l->k<vs.l->lt j i=false->lt k j=false->lt k i=false)(as:∀i j,i<vs.l->j<vs.l->lt i j=true->lt j i=false)(ho:C_ 0=a8 (seqObj "list" vs.toArray n))(jg:vs.l<64)(hk:∀s':g_,(∀b o,b≠a->tx 0=a8 o->s'.heap.get? b=a8 o)->∀Q:c9 SortKind,Q κ s'->l_ (δH 0) Q E s')(gm:∀s':g_,(∀b o,b≠a->tx 0=a8 o->s'.heap.get? b=a8 o)->∀i j,i<vs.l->j<vs.l->∀Q:c9 Bool,Q (lt i j) s'->l_ (δI (YK 0)<|vs.getD j yf) Q (λ_ _=>False) s')(h:∀p:Z5 0,p.Perm (xf vs.l)->p.Pairwise (λi j=>lt j i=false)->P (.done<|.ret .none) {s with heap:=sortedHeap s.heap a vs (p.map λi=>YK 0).toArray}):
  l_ (Builtin.«list.sort» ⟨[.ref a],[]⟩) P E s:=by
 rw[list_sort_plain];let ha:a<(b7 s):=vy ho;show eg<|listItems_at ho rfl ?_;show eg (Ww ho rfl ?_ (by rw[v9,yt];omega)<|w6 _);obtain⟨e1,ho1⟩:∃e1,(A_<|yk λ_=>#[]).get? a=a8 (seqObj "list" #[] e1):=⟨_,Xi ho<|λ_=>#[]⟩;show eg<|seqEpoch_at ho1 rfl ?_;show eg (wpAny_newTuple ?_ (by change vs.l<=_;rw[yt];omega));show eg<|wpAny_newList ?_<|w6 _;show yq ?_;let ja:(((A_<|yk λ_=>#[]).push<|seqObj "tuple" vs.toArray 0).push<|seqObj "list" #[] 0).get? a=a8 (seqObj "list" #[] e1):=by rw[δr (by rw[size_push',Heap.size_update];show wc<|Wl ha),δr (by rw[Heap.size_update];show wc ha)];show ho1
 let kept:∀b o,b≠a->tx 0=a8 o->(((A_<|yk λ_=>#[]).push<|seqObj "tuple" vs.toArray 0).push<|seqObj "list" #[] 0).get? b=a8 o:=λb o hb e=>X4<|vi _<|(zt s.heap (yk λ_=>#[])<|xy hb).trans e
 change l_ _ P E {s with heap:=((A_<|yk λ_=>#[]).push<|seqObj "tuple" vs.toArray 0).push (seqObj "list" #[] 0)}
 dsimp only;let hsz:vs.toArray.size=vs.l:=by simp
 by_cases h2:vs.toArray.size<2
 ·rw[if_pos h2,if_pos h2];show eg<|vh ?_;rw[StateT.run_pure];show eg<|vh ?_;dsimp only;show eg<|seqEpoch_at ja rfl ?_;show eg (Ww ja rfl ?_ (w6 _) (hsz2:=by rw[Array.size_map];change(pairsOf vs).size<=_;rw[pairsOf_size,yt];omega));simp only[bne_self_eq_false,Bool.false_eq_true,if_false];let e:(vs.toArray.zip vs.toArray).map (·.2)=((xf vs.l).map λi=>YK 0).toArray:=by
   apply Array.toList_inj.mp;apply Vy;intro i;by_cases hi:i<vs.l
   ·simp[hi]
   ·simp[hi]
  let key:=h (xf vs.l) (WB _) (by rw[zp];intro i j hi hj ow;simp only[WM]at hi hj;omega);rw[<-e]at key;show vh key
 ·rw[if_neg h2,if_neg h2];let uu:2<=vs.l:=⋯;show eg (hk _ kept _ ?_);show eg (zh (kat_run (ks:=vs) (vs:=vs) (E:=E) (Q:=λib s'=>s'={s with heap:=((A_ (yk λ_=>#[])).push (seqObj "tuple" vs.toArray 0)).push (seqObj "list" #[] 0)}/\arrOf ib=(s_ (ζh 0)).map (kas_item (vs.toArray.zip vs.toArray))/\failedOf ib=a9)
   (G:=λp s'=>p=s_ (ζh 0)/\s'={s with heap:=((A_<|yk λ_=>#[]).push<|seqObj "tuple" vs.toArray 0).push (seqObj "list" #[] 0)}) rfl uu jg (λp ib s' _ a2 a3 a4=>⟨a4.2,by rw[a2,a4.1],a3⟩)
   (yY (n:=vs.l) (lt:=lt) (λi j C hi hj hC=>gm _ kept i j hi hj C hC) (yX ⋯) ⟨rfl,rfl⟩)) ?_ λ_ _ e=>e)
  rintro⟨⟨⟩,ib⟩ s' ⟨rfl,har,hf⟩;dsimp only;let dy:=kat_snds (ks:=vs) (vs:=vs) rfl har;let(c1,c2):=De tr as ⋯;show eg (seqEpoch_at ja rfl ?_);show eg (Ww ja rfl ?_ (w6 _) (hsz2:=by
   have:(Array.map (λx=>x.snd)<|arrOf ib).size<=wa:=by rw[dy,v9,vn,c1.length_eq,WM,yt];omega
   first|exact this|exact Nat.le_succ_of_le this))
  rw[hf];simp only[bne_self_eq_false,Bool.false_eq_true,if_false];let key:=h _ c1 c2;rw[<-dy]at key;show vh key
def uY{P:PySem.Fin->g_->Prop}(x:C_ 0=a8 (seqObj "list" ([]:YX 0).toArray n))(h:P (.done<|.ret .none) {s with heap:=sortedHeap s.heap a [] #[]}):l_ (Builtin.«list.sort» ⟨[.ref a],[]⟩) P E s:=by
 rw[list_sort_plain];show eg<|listItems_at x rfl ?_;show eg<|Ww x rfl ?_ (w6 _)<|w6 _;let ha:=vy x;obtain⟨e1,x⟩:∃e1,(A_<|yk λ_=>#[]).get? a=a8 _:=⟨_,Xi x<|λ_=>#[]⟩;show eg<|seqEpoch_at x rfl ?_;show eg<|wpAny_newTuple ?_<|w6 _;show eg<|wpAny_newList ?_<|w6 _;show yq ?_;let s:(((A_<|yk λ_=>#[]).push<|seqObj "tuple" ([]:YX 0).toArray 0).push<|seqObj "list" #[] 0).get? a=a8 (seqObj "list" #[] e1):=by rw[δr (by rw[size_push',Heap.size_update];show wc<|Wl ha),δr (by rw[Heap.size_update];show wc ha)];show x
 show eg<|vh ?_;show eg<|vh ?_;show eg<|seqEpoch_at s rfl ?_;let x:(Array.map (λx=>x.snd)<|arrOf<|SortSt.mk' general' ((#[]:K_ 0).zip (#[]:K_ 0)) #[] 7 a9)=(#[]:K_ 0):=by simp
 refine eg (Ww s rfl ?_ (w6 _) (hsz2:=by first|exact vz (WR (by rw[x];rfl)) (w6 _)|(show _<=_;omega)))
 simp only[bne_self_eq_false];show vh ?_;rw[x];show h
def Bq(C:YX 0->g_->Prop)(X:Y4 (collect v) C E s)(h:∀V S,C V S->V.l<64/\∃l:Nat->Nat->Bool,(∀i j k,i<V.l->j<V.l->k<V.l->l j i=false->l k j=false->l k i=false)/\(∀i j,i<V.l->j<V.l->l i j=true->l j i=false)/\
   (∀(g:i_)(z:g_),(∀b o,ζi 0=a8 o->z.heap.get? b=a8 o)->0<V.l->∀(Q:c9 SortKind) E',Q κ z->d6 prog w g (keyKind' V.toArray) Q E' z)/\
   (∀(z:g_),(∀b o,ζi 0=a8 o->z.heap.get? b=a8 o)->∀i j,i<V.l->j<V.l->∀Q:c9 Bool,Q (l i j) z->d6 prog w A.in1.in1 (δI (V.getD i yf)<|V.getD j yf) Q (λ_ _=>False) z)/\
   ∀(p:Z5 0)(H:jo)(e:Nat),p.Perm (xf V.l)->p.Pairwise (λi j=>l j i=false)->(∀b o,ζi 0=a8 o->H.get? b=a8 o)->H.get? S.heap.objs.size=a8 (seqObj "list" (p.map λi=>V.getD i yf).toArray e)->Q (.ref S.heap.objs.size) { S with heap:=H}):
  l_ (call (.builtin "sorted") [v]) Q E s:=by
 show Calls.call_function_entry kind_sorted plain_sorted entry_sorted (args_sorted1 _) ?_;unfold Builtin.«sorted»;show eg (m:=checkCount "sorted" 1 1 _)<|vh ?_;show eg<|zh X (λV S c=>?_) λ_ _ x=>x;let(u,l,O,d,U,T,f):=h V S c;show eg (wpAny_newList ?_ (by rw[yt];omega));let L:(S.heap.push<|seqObj "list" V.toArray 0).get? S.heap.objs.size=a8 (seqObj "list" V.toArray 0):=YU rfl;let K:∀b o,ζi 0=a8 o->b≠S.heap.objs.size/\(S.heap.push<|seqObj "list" V.toArray 0).get? b=a8 o:=λb o q=>⟨wc<|vy q,X4 q⟩
 change X6 { S with heap:=S.heap.push (seqObj "list" V.toArray 0)}
 show eg<|yq<|yc slot_list_sort (A0 L rfl) entry_list_sort ?_<|args_list_sort _;let t:d6 prog w A.in1.in1 (Builtin.«list.sort» ⟨[.ref S.heap.objs.size],[]⟩) (λr z=>∃p:Z5 0,r=.done (.ret .none)/\p.Perm (xf V.l)/\p.Pairwise (λi j=>l j i=false)/\z={ S with heap:=sortedHeap (S.heap.push<|seqObj "list" V.toArray 0) S.heap.objs.size V (p.map λi=>V.getD i yf).toArray}) E { S with heap:=S.heap.push (seqObj "list" V.toArray 0)}:=by
  by_cases Y:0<V.l
  ·show wZ l O d L u (λz P Q n=>U _ z (λb o e=>P b o (K b o e).1 (K b o e).2) Y Q _ n) (λz P i j I J Q n=>T z (λb o e=>P b o (K b o e).1 (K b o e).2) i j I J Q n) λp a y=>I1d p rfl a y rfl
  ·let Z:V=[]:=List.length_eq_zero_iff.mp ⋯;subst Z;show uY L<|I1d [] rfl (WB _) Xo rfl
 show zh t (λr z R=>?_) λ_ _ x=>x;let(p,(z0),a,y,z1):=R;subst z0;subst z1;show(_,rfl,vh ⟨_,rfl,?_⟩);let(e,W):=sortedHeap_at (h:=S.heap.push _) (out:=(p.map λi=>V.getD i _).toArray) L;show f p _ e a y (λb o q=>(sortedHeap_old (K b o q).1 (by rw[size_push'];show Wl<|vy q)).trans (K b o q).2) W
def Br{α:Type}{xs:k_ α}{d:α}{p:Z5 0}(h:p.Perm (xf xs.l)):(p.map λi=>xs.getD i d).Perm xs:=by
 let e:(xf xs.l).map (λi=>xs.getD i d)=xs:=by
  apply Vy;intro i;by_cases H:i<xs.l
  ·simp[H]
  ·simp[H]
 have:=h.map λi=>xs.getD i d
 rwa[e]at this
def uZ{vs:k_ V}{us:YX 0}(r:β3 0):∀{p:Z5 0},(∀i∈p,i<vs.l)->aO (p.map λi=>δJ 0 .non) (p.map λi=>us.getD i yf)
 |[],_=>.nil
 |i::p,h=>by
  let g:vs[i]?=a8 (δJ 0 .non):=by simp[h i vo]
  let(u,(U),R):=r.get g;let e:us.getD i yf=u:=by simp[U]
  show .cons ?_<|uZ r λj H=>h j<|vr _ H
  change RelV _ (us.getD i _)
  rw[e];show R
def AX:typeLookup (.type "tuple") "keys" = pure a9:=by rw[typeLookup_type,builtinLookup_eq_fast];kernel_rfl
def kK:αH "dict.update.loop" = a8 Builtin.«dict.update.loop»:=entryFor_of_tree (by kernel_rfl)
def kL:plainId "dict.update.loop" = true:=by decide +kernel
variable{o:Obj}
def AY{xs:K_ 0}{k:Nat}{Q:l7 gV->g_->Prop}(X:C_ 0=a8 o)(C:o.cls=.type "tuple")(t:o.data=.seq xs k)(D:o.dict=a9)(r:A.handled=a9)(h:∀H K,(∀b u,tx 0=a8 u->H.get? b=a8 u)->Q a9 {s with heap:=H,toks:=K}):l_ (getAttr? (.ref a) "keys") Q E s:=by
 let(c,v,y,l):=o;simp only at C t D;subst C t D;let(p,g,d,K,O):=s;let z:∀T,(⟨p,g,d,T,O⟩:g_).TypeIs (.ref a) "tuple" := λ_=>A0 X rfl;let f:=sub_AttributeError;let q:=F.slot_tuple_getattribute.lookup;let n:=F.slot_tuple_getattribute.bind<|.ref a;let m:=am_tuple_getattr_none;unfold getAttr? getAttrBy? getAttrBy
 repeat (any_goals (first|assumption|exact z _|(specialize n7 (call (Value.builtin "tuple.__getattribute__") _ _) _ _ _;refine call_meets F.slot_tuple_getattribute (z _) am_entry_tuple_getattribute (F.args_tuple_getattribute_2 _ _) (meets_getattribute_miss_tuple a xs k l "keys" _ AX (by decide)<|by size_fits)<|I0c X r λH T e x=>?_)|wp_step))
 let(i,U,(j)):=x.there;unfold getattributeRaised
 repeat (any_goals (first|assumption|wp_step))
 show εB x.of.keeps
variable{I:h_}{fp wr:k_ h_}
section
variable{K:Type}[DecidableEq K]{knd:KeyKind prog w K}
def EO{d:h_}{P:Nat->gV->Prop}{St:Nat->jo->Prop}(W:αz A.in1 I fp wr n P St)(hd:d∉fp)(ps:k_ (h_×K×gV×gV))(hn:ps.l=n)(hP:∀i v,P i v->∃p,ps[i]?=a8 p/\v=.ref p.1)(X:∀p∈ps,p.1∉wr/\p.1≠d)(hk:∀p∈ps,knd.is p.2.1 p.2.2.1=true)(res):
  ∀(m i)(s)(k),n-i=m->i<=n->St i s.heap->s.heap.DictOf knd d k->k.l+n<=wa+i->(∀p∈ps,Zv p.1 #[p.2.2.1,p.2.2.2])->
  (∀y g,y.DictOf knd d (merged k<|(ps.drop i).map λp=>(p.2.1,p.2.2.2))->(∀b o,b≠d->b∉wr->tx 0=a8 o->y.get? b=a8 o)->R (.ok<|.ret res) {s with heap:=y,toks:=g})->
  codeAny (L_ w) A (.builtin "dict.update.loop" ⟨[.ref d,.ref I,rawInt i,res],[]⟩) R s:=by
 let l:=λh=>hd<|W.sub _ h;intro m
 induction m with
 |zero=>
  intro i s k c C x t h T Y;let f:=VH C<|Nat.le_of_sub_eq_zero c;subst f;show VT kK ?_
  change αG A.in1 (pyNext _ >>= _) _ _ s
  show eg<|W.done s _ _ x λy g H=>?_
  change αG A.in1 _ _ _ _
  let f:=Y y g (by rw[List.drop_of_length_le<|WR hn];let(o,a,E,(Z),u):=t;show(I3b o a E (H d _ l Z) u)) λb o _ r e=>H b o r e;show eg<|vh<|vh f
 |succ m ih=>
  intro i s k c C x t h T Y;let L:=Nat.lt_of_sub_eq_succ c;show VT kK ?_
  change αG A.in1 (pyNext _ >>= _) _ _ s
  show eg<|W.item i s _ _ L x λv y g V j H=>?_;let(p,(hp),z0):=hP i v V;subst z0;let M:=xw hp;let(ob,Q,O,nn,N):=T p M;let B:=H _ _ (X p M).1 Q;let U:({s with heap:=y,toks:=g}:g_).TypeIs (.ref p.1) "tuple" := I1b ob B O;let D:y.DictOf knd d k:=by let(o,a,E,(Z),u):=t;show I3b o a E (H d _ l Z) u
  show eg<|yq<|eg<|wpAny_tryCatch ?_;show eg<|Wt U ?_;show eg<|wpAny_seqItems B N<|vh ?_
  change n7 (holding [p.2.2.1,p.2.2.2]<|dictSet d _ _) _ _ _
  show yq<|wpAny_dictSet_pairs (hk p M) D (hsz:=Nat.le_of_add_le_add_right<|vz h<|Nat.add_le_add_left C _) λu J S=>?_;show vh ⟨WU kL _,?_⟩;let V:St _ u:=W.frame _ y u j λb r o e=>(S.2 b<|λz=>hd<|z▸r).trans e;show ih _ _ (stored k p.2.1 _) (by rw[<-Nat.sub_sub,c];rfl) L V J ?_ (λq j=>?_) λh3 Q G O=>?_
  ·show vz (Nat.add_le_add_right (stored_length_le k p.2.1 _) n) (by rw[Nat.add_right_comm];show Wr h)
  ·let(N,(c1),c2):=T q j;show I1b N ((S.2 _ (X q j).2).trans<|H _ _ (X q j).1 c1) c2
  ·show Y h3 Q ?_ λb o r hw e=>O b o r hw<|(S.2 b r).trans<|H b o hw e;let F:ps.drop i=p::ps.drop (i+1):=by let(hl,e):=vg.mp hp;rw[List.drop_eq_getElem_cons hl,e]
   rw[F];show G
def xD{k:Nat}{ps:k_ (h_×K×gV×gV)}(W:A.handled=a9)(X:C_ 0=a8 o)(c:o.cls=.type "tuple")(d:o.data=.seq (ps.map λp=>yg p.1).toArray k)(N:o.dict=a9)(M:∀p∈ps,knd.is p.2.1 p.2.2.1=true)(I:∀p∈ps,Zv p.1 #[p.2.2.1,p.2.2.2])(hz:ps.l<=wa)(h:∀H f,H.DictOf knd (b7 s) (merged []<|ps.map λp=>(p.2.1,p.2.2.2))->(∀b u,tx 0=a8 u->H.get? b=a8 u)->Q (.ref<|b7 s) {s with heap:=H,toks:=f}):
  l_ (call (.type "dict") [.ref a]) Q E s:=by
 show callType_codes (Q₁:=λj S=>j=.ref _/\S={s with heap:=s.heap.push {cls:=.type "dict",data:=.dict #[]} }) F.kt_called_dict (F.kt_typeCall_dict_1 _) F.entry_dict_init (kt_code_dict_new _ ⟨rfl,rfl⟩) ?_;rintro j S ⟨rfl,rfl⟩;let n:(s.heap.push {cls:=.type "dict",data:=.dict #[]}).DictOf knd _ []:=Heap.DictOf.new _;let U:∀b u,tx 0=a8 u->(s.heap.push {cls:=.type "dict",data:=.dict #[]}).get? b=a8 u:=λb u e=>X4 e;let T:({s with heap:=s.heap.push {cls:=.type "dict",data:=.dict #[]} }:g_).TypeIs (.ref a) "tuple" := ZX (U _ _ X) c;show(n.typeIs,F.args_dict_init_2 _ _,?_);show eg ?_;unfold Builtin.Dict.selfAndRest;show eg (Wx n.typeIs<|show n7 (pure _) _ _ _ from vh ?_)
 change n7 (Builtin.Dict.updateFrom "dict.__init__" (b7 s) _ [] .none) _ _ _
 show eg<|Wt T ?_;show eg<|AY (U _ _ X) c d N W λg Z P=>?_;show eg<|W5 ?_;let q:IsTup g a (ps.map λp=>yg p.1).toArray:=⟨o,P _ _<|U _ _ X,c,k,d⟩;show eg (wpAny_pyIter_tuple (show({s with heap:=g,toks:=Z}:g_).heap.IsTuple a _ from q) (vh ⟨WU kL _,?_⟩))
 let l:(b7 s)<g.objs.size:=by have:=P _ _<|vq _ rfl;show vy this
 let t:∀b u,tx 0=a8 u->b<(b7 s):=λb u e=>vy e;let x:=t _ _ X;show EO (Walks.tuple (A:=A.in1.in1) W _ a (wc<|Xd x l) (ps.map λp=>yg p.1).toArray) ?_ ps (by simp) (λi v e=>?_) (λp m=>?_) M .none _ 0 _ [] (Nat.sub_zero _) (w6 _) ?_ ?_ (d0 hz) (λp m=>?_) λH f D L=>?_
 ·intro z;rcases v8.mp z with z|z
  ·show wc l z
  ·show wc x (vx.mp z).symm
 ·let Y:(ps.map λp=>yg p.1)[i]?=a8 v:=by simpa using e
  rw[wm]at Y;let(p,m,rfl):=w8.mp Y;show I1b p m rfl
 ·let(O,e,_):=I p m;let y:=t _ _ e;show(λz=>wc (Xd y l)<|vx.mp z,wc y)
 ·show((βw (YU rfl) rfl rfl),?_);let(O,(e),r):=q;show I1b O (X4 e) r
 ·let(J,R,V,(e),r):=n;show I3b J R V (X4<|P _ _ e) r
 ·let(O,e,r):=I p m;show I1b O (X4<|P _ _<|U _ _ e) r
 ·show(rfl,h H f (d0 D) λb u e=>?_);let y:=t _ _ e;show L b u (wc y) (λz=>wc (Xd y l)<|vx.mp z)<|vi _<|P _ _<|U _ _ e
end
variable{dc:h_}{ep:Nat}{oc:Obj}{it:h_}
section
variable{v:h_}{es:ε8 0}
def HM(h:s.heap.IsValuesView v dc)(h1:Zb 0=a8 oc)(h2:oc.data=.dict es ep)(q:Q (.ref<|b7 s) {s with heap:=s.heap.push {cls:=.type "dict_valueiterator",data:=.fields #[.ref dc,.int 0 0,.int es.size 0,.int ep 0]} }):l_ (pyIter<|.ref v) Q E s:=by
 let(o,(g),z,G):=id h;show WN h.typeIs F.slot_dict_values_iter (yc F.slot_dict_values_iter h.typeIs F.entry_dict_values_iter (show X6 _ from ?_) (F.args_dict_values_iter_1 _))
 show eg<|vh<|eg ?_;unfold Builtin.Dict_items.dictOf;show eg<|VZ g G (x:=.ref dc) rfl<|vh<|eg ?_;unfold Builtin.Dict_items.newIterator;show eg<|Vz h1 h2<|eg<|VU h1 h2 ?_;rw[show Builtin.Dict_items.ownsTuple "dict_valueiterator" = false by decide];simp only[Bool.false_eq_true,if_false];show wt (vh ⟨_,rfl,"dict_valueiterator",_,(A0 (YU rfl) rfl),Vm.lookup,(by assumption)⟩)
def Jm{Q:l7 gV->g_->Prop}(h:γO ep)(h1:Zb 0=a8 oc)(h2:oc.data=.dict es ep)(l)(q:∀H,H.IsValIter it dc (i+1) es.size ep->VJ it s.heap H->Q (a8 es[i].val) {s with heap:=H}):l_ (pyNext<|.ref it) Q E s:=by
 let(o,(G),z,g):=id h;show eg<|VI<|yb h.typeIs Vm<|yc Vm h.typeIs F.entry_dict_valueiterator_next ?_<|F.args_dict_valueiterator_next_1 _;show eg<|vh<|eg<|eg ?_
 first|refine eg (δK<|vh ?_)|refine eg (WO _<|vh ?_)
 show eg<|VP G g ?_;show eg<|vh<|eg<|Vz h1 h2 ?_;rw[if_neg<|show ¬ _ by simp];show eg<|vh<|eg<|VU h1 h2 ?_;rw[if_neg<|show ¬ _ by simp];show vh ?_;simp[if_false,xh l];show eg ?_
 first|refine eg (δK<|vh ?_)|refine eg (WO _<|vh ?_)
 show eg (wpAny_isOneOf_valiter h.typeIs<|show n7 (γZ 1 (rawInt<|(i)+1) >>= _) _ _ s from eg (VE G g (by simp) ?_))
 let I:(Yp (VQ (·.setIfInBounds 1 (rawInt<|(i)+1)))).IsValIter it dc (i+1) es.size ep:=(βw (yx _ G<|VA<|zw g _) ((Obj.cls_mapFields ..).trans z) (by rw[zw g];simp[rawInt]));let t:({s with heap:=Yp (VQ (·.setIfInBounds 1 (rawInt<|(i)+1)))}:g_).TypeIs _ "dict_valueiterator" := I.typeIs;show eg<|yq<|eg<|wpAny_isOneOf_valiter t<|eg<|wpAny_isOneOf_valiter t ?_;show vh<|vh<|I1b _ rfl<|vh<|q _ I<|yd ..
def Jn{Q:l7 gV->g_->Prop}(y:A.handled=a9)(h:γO ep)(h1:Zb 0=a8 oc)(h2:oc.data=.dict es ep)(g:es.size<=i)(q:∀H,Zd H->Q a9 {s with heap:=H}):l_ (pyNext<|.ref it) Q E s:=by
 let(o,(G),x,z):=id h;show eg<|VI<|yb h.typeIs Vm<|yc Vm h.typeIs F.entry_dict_valueiterator_next ?_<|F.args_dict_valueiterator_next_1 _;show eg<|vh<|eg<|eg ?_
 first|refine eg (δK<|vh ?_)|refine eg (WO _<|vh ?_)
 show eg<|VP G z ?_;show eg<|vh<|eg<|Vz h1 h2 ?_;rw[if_neg<|show ¬ _ by simp];show eg<|vh<|eg<|VU h1 h2 ?_;rw[if_neg<|show ¬ _ by simp];show vh ?_;simp[if_false,yj g];show eg ?_
 first|refine eg (δK<|vh ?_)|refine eg (WO _<|vh ?_)
 show(show n7 (γZ 0 .none >>= _) _ _ s from eg (VE G z (by simp) ?_))
 show(show n7 (newExc _ [] >>= _) _ _ _ from eg ?_);simp[newExc]
 refine eg (wt (eg<|Wb (a:=yf) (by first|rfl|(simp;rfl))<|wt ?_<|by size_fits)<|by size_fits)
 show eg<|wpAny_handled ?_;rw[show A.in1.handled=a9 from y]
 show eg<|vh<|wpAny_throw ?_;show eg<|Vs (A0 (YU rfl) rfl) isSubtype_stop ?_;show vh<|q _<|((yd ..).extBut.push _).push _
def ER(u:A.handled=a9)(I dc)(n:dc≠I)(oc)(es)(ep)(h2:oc.data=.dict es ep):
  αz A I [I,dc] [I] es.size (λi v=>∃e,es[i]?=a8 e/\v=e.val) (λi h=>h.IsValIter I dc i es.size ep/\h.get? dc=a8 oc) where
 sub:=λb B=>by rw[vx.mp B];show vo
 frame:=λ_ _ _ t k=>⟨let ⟨o,e,r⟩:=t.1;(ZX (k I vo o e) r),k dc (εs vo) _ t.2⟩
 item:=λi s Q E q t H=>Jm t.1 t.2 h2 q λy T S=>H _ y _ ⟨es[i],by simp,rfl⟩ ⟨T,(S.2 dc n).trans t.2⟩ λb o B e=>(S.2 b λz=>B (by rw[z];show vo)).trans e
 done:=λs Q E t H=>Jn u t.1 t.2 h2 (vk _) λy x=>H y _ λb o B e=>x b o (λz=>B (by rw[z];show vo)) e
 self:=λ_ _ _ _ t H=>wpAny_pyIter_valiter t.1 H
def Dg{r:h_}(h2:oc.data=.dict es ep):PySem.W.KdlSrc prog w "dict_values" r dc es.size (λi v=>∃e,es[i]?=a8 e/\v=e.val) (λh=>h.IsValuesView r dc/\h.get? dc=a8 oc) where
 type:=λ_ m=>m.1.typeIs
 there:=λ_ m=>⟨let ⟨_,ho,_⟩:=m.1;vy ho,vy m.2⟩
 keep:=λ_ _ m k=>⟨let ⟨o,ho,x⟩:=m.1;(ZX (k r (.inl rfl) o ho) x),k dc (.inr rfl) _ m.2⟩
 notList:=by decide
 notTuple:=by decide
 hint:=λ_ _ _ _ m q=>PySem.W.kdl_hint_values m.1.typeIs q
 iter:=λ_ _ H m=>⟨_,_,(λ_ _ q=>HM m.1 m.2 h2 q),ER H _ dc (wc<|vy m.2) oc es ep h2,⟨(βw (YU rfl) rfl rfl),X4 m.2⟩⟩
def C8(dc)(d:(dc == zx)=false):MeetsIn prog w (Builtin.«dict.values» ⟨[.ref dc],[]⟩) (λ_ R s=>s.TypeIs (.ref dc) "dict" /\
   R (.ok (.ret (.ref (b7 s)))) {s with heap:=s.heap.push {cls:=.type "dict_values",data:=.fields #[.ref dc]} }):=
 .of_wp λA R s ⟨T,h⟩=>by
  show eg ?_;unfold Builtin.Dict.noArgs;show eg (Wx T<|show n7 (pure dc) _ _ s from vh (show X6 s from ?_))
  unfold Xj;rw[if_neg (by rw[d];decide)];show eg<|vh<|eg<|wt<|vh<|I1b _ rfl h
end
variable{ov:gV}
def jQ{ok:gV}(h:ZD n ep ok ov):s.TypeIs (.ref it) "dict_itemiterator" := A0 h rfl
def ES{v:h_}{es:ε8 0}(h:s.heap.IsItemsView v dc)(h1:Zb 0=a8 oc)(h2:oc.data=.dict es ep)(q:Q (.ref<|b7 s) {s with heap:=s.heap.push {cls:=.type "dict_itemiterator",data:=.fields #[.none,.bool false,.ref dc,.int 0 0,.int es.size 0,.int ep 0,.none,.none]} }):l_ (pyIter<|.ref v) Q E s:=by
 let(o,(g),z,G):=id h;show WN h.typeIs F.slot_dict_items_iter (yc F.slot_dict_items_iter h.typeIs F.entry_dict_items_iter (show X6 _ from ?_) (F.args_dict_items_iter_1 _))
 show eg<|vh<|eg ?_;unfold Builtin.Dict_items.dictOf;show eg<|VZ g G (x:=.ref dc) rfl<|vh<|eg ?_;unfold Builtin.Dict_items.newIterator;show eg<|Vz h1 h2<|eg<|VU h1 h2 ?_;rw[show Builtin.Dict_items.ownsTuple "dict_itemiterator" = true by decide];simp only[if_true,Builtin.Dict_items.ownedTupleFields];show wt (vh ⟨_,rfl,"dict_itemiterator",_,(A0 (YU rfl) rfl),zo.lookup,(by assumption)⟩)
def next_item{es:ε8 0}{ok:gV}{Q:l7 gV->g_->Prop}(z:ZD es.size ep ok ov)(h1:Zb 0=a8 oc)(h2:oc.data=.dict es ep)(l:i<es.size)(q:∀u,IsItemIterOut u it dc (i+1) es.size ep es[i].key es[i].val (b7 s)->u.get? (b7 s)=a8 {cls:=.type "tuple",data:=.seq #[es[i].key,es[i].val]}->
   (∀(b:h_)(o:Obj),b≠it->tx 0=a8 o->u.get? b=a8 o)->Q (a_ (b7 s)) {s with heap:=u}):l_ (pyNext (.ref it)) Q E s:=by
 let T:=jQ z;show eg<|VI<|yb T zo<|yc zo T F.entry_dict_itemiterator_next ?_<|F.args_dict_itemiterator_next_1 _;show eg<|vh<|eg<|eg ?_;show eg<|VV T<|vh ?_;show eg<|VP z rfl ?_;show eg<|vh<|eg<|Vz h1 h2 ?_;rw[if_neg<|show ¬ _ by simp];show eg<|vh<|eg<|VU h1 h2 ?_;rw[if_neg<|show ¬ _ by simp];show vh ?_;simp only[if_false,Int.toNat_natCast,xh l];show eg ?_;show eg<|VV T<|vh ?_;show eg (wpAny_isOneOf_itemiter T<|show n7 (setField (.ref it) 3 (rawInt<|(i:Int)+1) >>= _) _ _ s from eg (VE z rfl (by simp) ?_))
 let H:IsItemIter (Yp (VQ (·.setIfInBounds 3 (rawInt<|(i:Int)+1)))) it dc (i+1) es.size ep ok ov:=by
  change(Yp _).get? it=_
  rw[yx _ z<|VA<|zw rfl _];simp[VQ,rawInt]
 let K:∀(b:h_)(o:Obj),b≠it->tx 0=a8 o->(Yp (VQ (·.setIfInBounds 3 (rawInt<|(i:Int)+1)))).get? b=a8 o:=λb o h e=>by rw[(yd ..).2 b h];show e
 let Z:(Yp (VQ (·.setIfInBounds 3 (rawInt<|(i:Int)+1)))).objs.size=(b7 s):=(yd ..).1;generalize s.heap.update it (VQ (·.setIfInBounds 3 (rawInt<|(i:Int)+1)))=hA at H K Z;let y:({s with heap:=hA}:g_).TypeIs (.ref it) "dict_itemiterator" := jQ H;show eg<|yq<|eg<|wpAny_isOneOf_itemiter y<|eg<|wpAny_isOneOf_itemiter y ?_;show eg (wt ?_<|by size_fits);let I:IsItemIter (hA.push {cls:=.type "tuple",data:=.seq #[es[i].key,es[i].val]}) it dc (i+1) es.size ep ok ov:=X4 H;let G:(hA.push {cls:=.type "tuple",data:=.seq #[es[i].key,es[i].val]}).get? hA.objs.size=a8 {cls:=.type "tuple",data:=.seq #[es[i].key,es[i].val]}:=YU rfl;let p:∀(b:h_)(o:Obj),b≠it->tx 0=a8 o->(hA.push {cls:=.type "tuple",data:=.seq #[es[i].key,es[i].val]}).get? b=a8 o:=λb o h e=>X4<|K b o h e;rw[Z]at G;let n:=Io<|vy z;let W:(yg ({s with heap:=hA}:g_).heap.objs.size)=.ref (b7 s):=by rw[<-Z]
 simp only[W];show eg<|eg<|VZ I rfl (x:=.none) rfl<|vh ?_;show eg<|VZ I rfl (x:=ok) rfl<|eg<|VZ I rfl (x:=ov) rfl ?_;let t:∀{h1:jo}{S:K_ 0}{j:Nat}{x:gV}{m:Type}{f:Unit->Sem m}{R:c9 m}{r:b9 0},h1.get? it=a8 {cls:=.type "dict_itemiterator",data:=.fields S}->j<S.size->
   (∀h2:jo,h2.get? it=a8 {cls:=.type "dict_itemiterator",data:=.fields (S.setIfInBounds j x)}->(∀(b:h_),b≠it->h2.get? b=h1.get? b)->Y4 (f ()) R r {s with heap:=h2})->
   Y4 (setField (.ref it) j x >>= f) R r {s with heap:=h1}:=λ{h1 S j x m f R r} g J k=>by
  show eg<|VE g rfl J ?_;show k _ ?_ λb h=>(yd ..).2 b h;rw[yx _ g<|VA<|zw rfl _];simp[VQ]
 show t I (by simp) λN V c=>?_;show t V (by simp) λM U a=>?_;show t U (by simp) λL P Y=>?_;show t P (by simp) λd O X=>?_;show eg (wpAny_letGo<|vh<|vh<|I1b _ rfl<|vh<|q d (by rw[<-Z];change d.get? it=_;rw[O];simp) ?_ λb o h e=>?_)
 ·rw[X _ n,Y _ n,a _ n,c _ n];show G
 ·rw[X _ h,Y _ h,a _ h,c _ h];show p b o h e
def HN{es:ε8 0}{ok:gV}{Q:l7 gV->g_->Prop}(z:A.handled=a9)(I:ZD es.size ep ok ov)(h1:Zb 0=a8 oc)(h2:oc.data=.dict es ep)(g:es.size<=i)(q:∀H,Zd H->Q a9 {s with heap:=H}):l_ (pyNext<|.ref it) Q E s:=by
 let h:=jQ I;show eg<|VI<|yb h zo<|yc zo h F.entry_dict_itemiterator_next ?_<|F.args_dict_itemiterator_next_1 _;show eg<|vh<|eg<|eg ?_;show eg<|VV h<|vh ?_;show eg<|VP I rfl ?_;show eg<|vh<|eg<|Vz h1 h2 ?_;rw[if_neg<|show ¬ _ by simp];show eg<|vh<|eg<|VU h1 h2 ?_;rw[if_neg<|show ¬ _ by simp];show vh ?_;simp[if_false,yj g];show eg ?_;show eg<|VV h<|vh ?_;show(show n7 (γZ 2 .none >>= _) _ _ s from eg (VE I rfl (by simp) ?_))
 show(show n7 (newExc _ [] >>= _) _ _ _ from eg ?_);simp[newExc]
 refine eg (wt (eg<|Wb (a:=yf) (by first|rfl|(simp;rfl))<|wt ?_<|by size_fits)<|by size_fits)
 show eg<|wpAny_handled ?_;rw[show A.in1.handled=a9 from z]
 show eg<|vh<|wpAny_throw ?_;show eg<|Vs (A0 (YU rfl) rfl) isSubtype_stop ?_;show vh<|q _<|((yd ..).extBut.push _).push _
def yZ:αH "dict_itemiterator.__iter__" = a8 Builtin.«dict_keyiterator.__iter__»:=entryFor_alias (id':="dict_keyiterator.__iter__") rfl rfl (by decide +kernel) (by rfl)
def ET{ok:gV}(I:ZD n ep ok ov)(q:Q (.ref it) s):l_ (pyIter<|.ref it) Q E s:=by
 let h:=jQ I;show WN h F.slot_dict_itemiterator_iter (yc F.slot_dict_itemiterator_iter h yZ (show X6 _ from ?_) (F.args_dict_itemiterator_iter_1 _))
 show eg<|vh ?_;show vh ⟨_,rfl,"dict_itemiterator",_,h,zo.lookup,q⟩
def Dh(dc)(d:(dc == zx)=false):MeetsIn prog w (Builtin.«dict.items» ⟨[.ref dc],[]⟩) (λ_ R s=>s.TypeIs (.ref dc) "dict" /\
   R (.ok (.ret (.ref (b7 s)))) {s with heap:=s.heap.push {cls:=.type "dict_items",data:=.fields #[.ref dc]} }):=
 .of_wp λA R s ⟨T,h⟩=>by
  show eg ?_;unfold Builtin.Dict.noArgs;show eg (Wx T<|show n7 (pure dc) _ _ s from vh (show X6 s from ?_))
  unfold Xj;rw[if_neg (by rw[d];decide)];show eg<|vh<|eg<|wt<|vh<|I1b _ rfl h
def Jo(xs)(j):∀(f l H),H-l<=f->l<=H->H<=xs.size->(∀i(h),i<l->xs[i]<j)->(∀i(h),H<=i->¬ xs[i]<j)->
  (xs.toList.Pairwise (· < ·))->εk H<=xs.size/\(∀i(h),(xs[i]<j↔i<εk H)):=by
 intro f
 induction f with
 |zero=>
  intro l H F L s A B _;have:l=H:=⋯;subst this
  change l<=_/\∀i(h),(xs[i]<j↔i<l)
  show(s,λi h=>⟨λz=>Decidable.byContradiction λy=>B i h ⋯ z,λz=>A i h z⟩)
 |succ f I=>
  intro l H F L s A B p
  change(if l<H then _ else l)<=_/\∀i(h),(xs[i]<j↔i<(if l<H then _ else l))
  by_cases h:l<H
  ·simp only[αR 0];let M:(l+H)/2<xs.size:=⋯;let m:∀a b(A)(B:b<xs.size),a<b->xs[a]<xs[b]:=λa b z y x=>by
    have:=(zp.mp p) a b (d0 z) (d0 y) x
    simpa using this
   let e:xs.getD ((l+H)/2) j=xs[(l+H)/2]:=by simp[Array.getD,M]
   rw[e];by_cases c:xs[(l+H)/2]<j
   ·simp[Za 0];show I _ _ ⋯ ⋯ s (λi z y=>by
     by_cases x:i=(l+H)/2
     ·subst x;show c
     ·have:=m i _ z M ⋯;omega) B p
   ·simp[βh 0];show I _ _ ⋯ ⋯ ⋯ A (λi z y=>by
     by_cases x:i=(l+H)/2
     ·subst x;show c
     ·have:=m _ i M z ⋯;omega) p
  ·simp only[ZU 0];have:l=H:=⋯;subst this;show(s,λi h=>⟨λz=>Decidable.byContradiction λy=>B i h ⋯ z,λz=>A i h z⟩)
def zA{xs:Yy 0}(p:xs.toList.Pairwise (· < ·))(j):WC xs j<=xs.size/\(∀i(h),(xs[i]<j↔i<WC xs j)):=Jo xs j _ 0 _ ⋯ ⋯ ⋯ (λi h H=>by omega) (λi h H=>by omega) p
variable{j:Nat}
def AZ{xs:Yy 0}(H:xs.toList.Pairwise (· < ·))(J:xs[WC xs j]?≠a8 j):(SetTable.insertAt xs (WC xs j) j).toList.Pairwise (· < ·):=by
 let(w,z):=zA H j;generalize WC xs j=p at w z J;let e:(SetTable.insertAt xs p j).toList=xs.toList.take p++[j]++xs.toList.drop p:=by simp[SetTable.insertAt,List.take_of_length_le]
 rw[e];rw[Vw,List.pairwise_append,List.singleton_append,Vn];show(H.sublist<|List.take_sublist ..,⟨λa A=>?_,H.sublist<|List.drop_sublist ..⟩,λa A b B=>?_)
 ·let(i,I,rfl):=List.mem_iff_getElem.mp A;let h:p+i<xs.size:=by simp at I;omega
  let N:=mt (z _ h).mp ⋯;let n:xs[p+i]≠j:=by
   intro E;by_cases x:i=0
   ·subst x;apply J;rw[xh ⋯];show αW E
   ·have:=(zp.mp H) p _ (by simp;omega) (d0 h) ⋯
    let v:=mt (z p ⋯).mp ⋯;simp at this;omega
  simp;omega
 ·let(i,I,rfl):=List.mem_iff_getElem.mp A;let y:i<p:=by simp at I;omega
  let h:i<xs.size:=⋯;rcases v8.mp B with rfl|B
  ·simpa using((z i h).mpr y)
  ·let(k,K,rfl):=List.mem_iff_getElem.mp B;let l:p+k<xs.size:=by simp at K;omega
   have:=(zp.mp H) i _ (d0 h) (d0 l) ⋯
   simpa using this
structure TOk(bt:Bool)(t:WV):Prop where
 dum:t.dummies=#[]
 led:bt=false->t.led=true
 ris:t.plain=true->t.place.toList.Pairwise (· < ·)
variable{bt:Bool}
def TOk.standIn{t:WV}(h:γv t)(n):γv (t.standIn n):=⟨rfl,h.led,λe=>by exists e⟩
def C9{t:WV}(h:t.dummies=#[])(j):t.slot j≠.dummy:=by
 unfold SetTable.slot;simp[h,show SetTable.has #[] j=false from by simp[SetTable.has]]
 split <;> simp
def EU{t:WV}(h:t.slot j=.empty):t.place[WC t.place j]?≠a8 j:=by unfold SetTable.slot at h;intro e;simp[e]at h
def HP(t:WV)(p):(t.advance p).dummy=p.dummy:=by
 unfold SetTable.advance;split
 ·rfl
 ·rfl
open H in
def Jp{t:WV}(D:t.dummies=#[])(f)(h):∀(u)(p),p.dummy=a9->∀j d,SetTable.probe.go t f h u p=a8 (.empty j d)->d=a9/\t.slot j=.empty:=by
 intro u
 induction u with
 |zero=>intro p _ j d e;exists e
 |succ u i=>
  intro p P j d e;unfold SetTable.probe.go at e;split at e
  ·rename_i H;cases e
   show(P,H)
  ·rename_i H;show(C9 D _ H).elim
  ·split at e
   ·cases e
   ·show i _ (by rw[HP];show P) j d e
open H in
def HQ{t:WV}(D:t.dummies=#[]){h:Int}(e:t.freeSlot h=a8 (j,b)):t.slot j=.empty:=by
 unfold SetTable.freeSlot at e;split at e
 ·rename_i J d E;let(H,z):=Jp D _ _ _ _ rfl _ _ E;subst H;cases e
  show z
 ·exists e
def TOk.put{t:WV}(h:γv t)(H:t.slot j=.empty):γv (t.put j).1:=by show(?_,h.led,λe=>AZ (h.ris e)<|EU H);simp[SetTable.put,h.dum,SetTable.has]
def TOk.orSt{t:WV}(h:γv t)(n):γv (t.orStandIn n):=by
 unfold SetTable.orStandIn;split
 ·show h
 ·show h.standIn n
open H in
def TOk.lay{t:WV}(h:γv t)(es)(k)(x):γv (layNew t es k x).2.1:=by
 unfold layNew;split
 ·rename_i s w e;show(h.put<|HQ h.dum e).orSt _
 ·show h.standIn _
def HS(f:Nat->l7 Nat):∀n,((List.filterMap (λj=>Option.map (λx=>(j,x))<|f j)<|xf n).map (·.1)).Pairwise (· < ·):=by
 intro n;let h:((List.filterMap (λj=>Option.map (λx=>(j,x))<|f j)<|xf n).map (·.1)).Sublist (xf n):=by
  induction xf n with
  |nil=>simp
  |cons a l i=>
   simp[WS];cases f a with
   |none=>exact i.cons _
   |some x=>exact i.cons₂ _
 show List.pairwise_lt_range.sublist h
open H in
def TOk.relay{t:WV}(h:γv t)(es)(n):γv (relayAll t es n).2.1:=by
 unfold relayAll;split
 ·rename_i T r e;let H:γv T:=by
   unfold SetTable.relaid SetTable.laid at e;cases O:SetTable.layClean _ _ with
   |none=>rw[O]at e;exists e
   |some o=>rw[O]at e;let E:=αM<|wu e;subst E;show(rfl,h.led,λ_=>?_);show HS (λj=>ζj a9) _
  dsimp only;split
  ·show H
  ·show h.standIn _
 ·show h.standIn _
abbrev zB(e:Int×gV):Int:=match e.2 with|.int k _=>k|_=>0
abbrev dR(w:j2):Bool:=w.params.followText "set-order"
abbrev nV(w:j2)(h:jo)(a:h_)(ks:YV 0):Prop:=∃o es ep t,YC 0=a8 o/\o.ExactSet/\o.data=.set es ep t/\TOk (dR w) t/\Yt 0=true/\
 (∀e∈es.toList,∃k tk,e=(hashInt k,VN k tk))/\(es.toList.map zB).Perm ks
variable{es':Array (Int×gV)}
def Gg{h:jo}{es:Array (Int×gV)}{t t':WV}(O:YC 0=a8 o)(H:o.data=.set es ep t):
  (h.update a<|Obj.putSet es' t').get? a=a8 { o with data:=.set es' (ep+1) t'}:=by
 let(c,d,D,l):=o;subst H;rw[yx _ O<|by rfl];rfl
def Jq{es:Array (Int×gV)}(h:∀e∈es.toList,∃k t,e=(hashInt k,VN k t)):ElemsOf (βy w) es.toList:=λe H=>by let(k,t,rfl):=h e H;show((I1b k (αN k t) rfl),rfl)
variable{ks:YV 0}{tk:Tok}
def Px{k:Int}{Q:c9 Bool}(hS:nV w s.heap a ks)(hb:ks.l+1<scanBound)(h:∀b S,VJ a s.heap S->nV w S a (if k∈ks then ks else ks++[k])->Q b {s with heap:=S}):l_ (setAddHashed a (.int k tk)<|hashInt k) Q E s:=by
 let(o,S,ep,t,(ho),hx,hd,ht,hf,b,hp):=hS;let hlen:S.size=ks.l:=by have:=hp.length_eq;simpa using this
 let hE:ElemsOf (βy w) _:=Jq b;show yq <|eg<|WQ ho hd hf ?_;dsimp only;rw[byScan_of (show(VN k tk).scannable=true from rfl) ⋯ hE]
 show eg <|eg<|W5<|eg<|wpAny_setScan_of (αN k tk) ho hd hf hE ?_;cases hi:List.findIdx? (λe=>(βy w).is k e.snd) S.toList with
 |some j=>
  let hm:k∈ks:=by let(hj,o,_):=List.findIdx?_eq_some_iff_getElem.mp hi;let ip:=VL hj;let(k',j,e):=b _ ip;rw[e]at o;have:=(βy w).inj _ _ _ o<|intKind_is prog w k' j;subst this;show hp.mem_iff.mp<|v7.mpr ⟨_,ip,?_⟩;rw[e];rfl
  show vh<|vh<|h _ _ (Heap.SameBut.refl ..) ?_;rw[if_pos hm];show I4g o S ep t ho hx hd ht hf b hp
 |none=>
  let hm:k∉ks:=by
   intro hk;let(e,(he),qq):=v7.mp<|hp.mem_iff.mpr hk;let(k',j,rfl):=b _ he;let o:=List.findIdx?_eq_none_iff.mp hi _ he;let h2:k'=k:=qq;subst h2;rw[αN k' j]at o
   exists o
  let pe:=layNew_perm t S (hashInt k)<|.int k tk;let fi:=layNew_fits t S (hashInt k)<|.int k tk;let tl:=ht.lay S (hashInt k)<|.int k tk;generalize layNew t S _ _=L at pe fi tl;let(j,p,wd,ly):=L;dsimp only at pe fi tl⊢;let hsz:j.size<scanBound:=by have:=pe.length_eq;simp at this;omega
  let fin:∀S es' p t',VJ a _ S->S.get? a=a8 { o with data:=.set es' p t'}->es'.toList.Perm _->TOk _ t'->t'.fits _=true->Q true {s with heap:=S}:=λS es' p t' o h2 h3 h4 h5=>by
   let p2:=h3.trans<|d0 pe;show εB o ?_;rw[if_neg hm];show I4g _ _ _ _ h2 ⟨hx.1,hx.2.1,hx.2.2⟩ rfl h4 h5 (λe he=>?_) ?_
   ·rcases xj.mp (p2.mem_iff.mp he) with h6|h6
    ·show b e h6
    ·show(k,tk,vx.mp h6)
   ·show(p2.map zB).trans ?_;rw[yo];show hp.append<|WB _
  show eg <|zh (Q:=λ_ t=>t=s) ?_ (λ_ t e=>?_)<|λ_ _ e=>e
  ·cases ly
   ·show vh rfl
   ·show W5 rfl
  subst e;let qp:∀{f:Unit->Sem _}{R:β9 0->g_->Prop},l_ (f ()) R E { t with heap:=t.heap.update a (Obj.putSet j p)}->αG A _ R E t:=λhq=>eg<|wpAny_storeSet_of ho hd hq<|fits_of_scanBound hsz;let g1:=Gg (es':=j) (t':=p) ho hd;let sb:=yd t.heap a<|Obj.putSet j p;let m7:∀{m:Sem Bool},m=pure true->∀{f:Bool->Sem _}{R:β9 0->g_->Prop},l_ (f true) R E t->αG A (m >>= f) R E t:=λe _ _ hq=>by subst e;show eg<|vh hq
  by_cases je:p.plain=true;rw[if_pos je];show m7 (hashByValue_scannable 8<|show(VN k tk).scannable=true from rfl) ?_
  rotate_left
  rw[if_neg je];show m7 rfl ?_
  all_goals
   rw[if_pos rfl];show qp ?_;by_cases hc:(!wd&&p.tooFull)=true
   ·rw[if_pos hc];let lg:=relayAll_perm p j<|XO j.size;let nu:=relayAll_fits p j<|XO j.size;let tr:=tl.relay j<|XO j.size;let hl:(relayAll p j<|XO j.size).fst.size=j.size:=by have:=lg.length_eq;simpa using this
    generalize relayAll p j (XO _)=L at lg nu tr hl;let(es2,t2,g2):=L;show eg<|zh (Q:=λ_ s2=>s2={ t with heap:=t.heap.update a (Obj.putSet j p)}) ?_ (λ_ s2 e2=>?_) (λ_ _ e=>e)
    ·cases g2
     ·show vh rfl
     ·show W5 rfl
    ·subst e2;show eg (wpAny_storeSet_of g1 rfl ?_ (by rw[hl];show fits_of_scanBound hsz));show vh<|vh<|fin _ _ _ _ (sb.trans<|yd _ _ _) (Gg (o:={ o with data:=.set j _ p}) g1 rfl) lg tr nu
   ·rw[if_neg hc];show vh<|vh<|fin _ _ _ _ sb g1 (WB _) tl fi
def nV.kept{h:jo}(H:nV w h a ks)(k:∀o,YC 0=a8 o->ε0 0=a8 o):nV w h' a ks:=by let(o,S,e,t,(O),r):=H;show I4b o S e t (k o O) r
def step_eq(ks:YV 0)(k):(if k∈ks then ks else ks++[k])=step_dedup ks k:=by
 unfold step_dedup;have:(ks.any λx=>x == k)=true↔k∈ks:=by simp
 by_cases h:k∈ks
 ·rw[αR 0,if_pos<|this.mpr h]
 ·rw[ZU 0,if_neg<|mt this.mp h]
def Jr{G:εh 0->εh 0->Prop}{P:Nat->gV->Prop}{St:c9 Nat}(W:WalksS prog w A.in1 I fp wr G n P St)(S:h_)(f:S∉fp)(l:Nat->Int)(V:∀i v,P i v->∃t,v=VN (l i) t)(hb:n+1<scanBound):∀(k i:Nat)(s:g_),n-i=k->i<=n->St i s->nV w s.heap S (firstMet l i)->
   (∀z,Moved (S::wr) G s z->nV w z.heap S (firstMet l n)->R (.ok<|.ret .none) z)->codeAny (L_ w) A (.builtin "set.update.loop" ⟨[.ref S,.ref I],[]⟩) R s:=by
 let r:=λh=>f<|W.sub S h;let u:∀b∈wr,b∈S::wr:=λb hb=>vr S hb;intro k
 induction k with
 |zero=>
  intro i s K Z H p q;have:i=n:=⋯;subst this;show γw 0 <|(show X6 s from eg (W.done s _ _ H λz m=>?_))
  show vh<|q z (m.mono u)<|p.kept λo O=>m.heap S o r O
 |succ k Y=>
  intro i s K Z H p q;let L:i<n:=⋯;show γw 0 <|(show X6 s from eg (W.item i s _ _ L H λv z c T m=>?_))
  let(t,rfl):=V i v c;show(show n7 (holding [VN (l i) t] _ >>= _) _ _ z from eg (yq ?_))
  refine yq<|eg<|(βy w).pyHash (αN (l i) t) ?_;let X:=firstMet_length_le l i;refine Px (p.kept λo O=>m.heap S o r O) ⋯ λb d B x=>?_;rw[step_eq,<-firstMet_succ]at x;refine vh ⟨WU PyProof.Rows.F.plain_set_update_loop _,Y (i+1) _ ⋯ L (W.frame (i+1) z d (z.toks+1) T (XH _) λb hb o e=>?_) x λg M y=>q g ?_ y⟩
  ·rw[B.2 b λh=>f<|h▸hb];show e
  ·show Moved.trans W.gtrans (Moved.then_heap (m.mono u) (XH _) λb o hb e=>?_) M;rw[B.2 b λh=>hb<|h▸vo];show e
variable{Q₁:b9 0}
def code_set_new(x)(q:Q₁ (.ref<|b7 s) {s with heap:=s.heap.push {cls:=.type "set",data:=.set #[] 0 (VF 0 0 !dR w)} }):
  codeAny (L_ w) A (.call (.builtin "set.__new__") ⟨[.type "set",x],[]⟩) (wants Q₁ E) s:=by
 show codeAny_of_tree <|eg<|Wb (F.newCall_set_1 x)<|vh ⟨WU F.plain_set_new _,VT F.entry_set_new ?_⟩;show eg <|(show n7 (isType _ >>= _) _ _ s from eg (vh ?_))
 show eg<|Wb sub_set_self ?_;show vh<|eg ?_;show eg<|eg<|Xv<|vh ?_;show wt<|vh q
variable{items:K_ 0}
def HU{l:h_}(X:A.handled=a9)(q:s.heap.IsList l items)(hi:IntsAre items.toList ns)(hb:items.size+1<scanBound)(h:∀x K,nV w x (b7 s) (firstMet (λi=>γx 0) items.size)->(∀b o,tx 0=a8 o->x.get? b=a8 o)->Q (.ref<|b7 s) {s with heap:=x,toks:=K}):
  l_ (call (.type "set") [.ref l]) Q E s:=by
 let(c,P,(M)):=XB.mro;let m:=XB.made;let u:=XB.sub;show wpAny_call (codeAny_of_tree<|show X6 _ from vh ⟨Code.quiet_builtin _<|by simp,VT F.entry_type_call ?_⟩)
 unfold Builtin.«type.__call__»;dsimp only;let W:=XB.notType;let U:=XB.canCreate;show Vq (show εl 0=false from rfl) ?_
 show Vq (show εl 0=false from rfl) ?_
 show eg<|Wb (F.typeCall_set_1<|yg l) ?_;show eg<|Wb M ?_;show Vq (show εl 0=false from rfl) ?_
 show eg<|Wb m ?_;show eg<|vh ?_;show eg<|yq<|wpAny_call<|XA (code_set_new (E:=E) (Q₁:=λj S=>j=.ref (b7 s)/\S={s with heap:=s.heap.push {cls:=.type "set",data:=.set #[] 0 (VF 0 0 !dR w)} }) (yg l) ⟨rfl,rfl⟩) λr S R=>?_;cases r with
 |error e=>exact R
 |ok f=>
 cases f with
 |next=>exact R.elim
 |brk=>exact R.elim
 |cont=>exact R.elim
 |ret j=>
  let(rfl,rfl):=R;let y:({s with heap:=s.heap.push {cls:=.type "set",data:=.set #[] 0 (VF 0 0 !dR w)} }:g_).TypeIs (.ref<|b7 s) "set" := A0 (YU rfl) rfl;show(show X6 _ from eg (Vs y u ?_))
  rw[if_neg<|by decide];show eg<|yq<|yb (name:=v3 "__init__") y XB.init ?_;show wpAny_call<|codeAny_call_builtin XB.init.plain F.entry_set_init<|check_set_init_1 y ?_;let O:(s.heap.push {cls:=.type "set",data:=.set #[] 0 (VF 0 0 !dR w)}).get? (b7 s)=a8 {cls:=.type "set",data:=.set #[] 0 (VF 0 0 !dR w)}:=YU rfl;let H:(s.heap.push {cls:=.type "set",data:=.set #[] 0 (VF 0 0 !dR w)}).IsList l items:=by let(o,(e),r):=q;show ZX (X4 e) r
  let T:({s with heap:=s.heap.push {cls:=.type "set",data:=.set #[] 0 (VF 0 0 !dR w)} }:g_).TypeIs (.ref l) "list" := by let(o,(e),r,_):=H;show ZX e r
  let t:nV w (s.heap.push {cls:=.type "set",data:=.set #[] 0 (VF 0 0 !dR w)}) (b7 s) []:=(I4g _ _ _ _ O ⟨rfl,rfl,rfl⟩ rfl ⟨rfl,λe=>by simp[VF,e],λ_=>Xo⟩ rfl (λe Y=>(by cases Y))<|WB _);unfold Builtin.«set.__init__»;show eg (show n7 (pure ()) _ _ _ from vh ?_)
  show(show n7 (typeNameOfCut 200 (yg<|b7 s) >>= _) _ _ _ from eg ?_)
  unfold typeNameOfCut shownTypeOf;show eg<|eg<|Wt y ?_;rw[if_neg<|by decide];show vh (Wb (a:="set") (by rfl) ?_);show eg (Wb (a:=()) (by rfl) ?_);show eg<|vh ?_;unfold setUsed;show eg<|eg<|WQ O rfl rfl<|vh ?_;show Vq (show εl 0=false from by cases dR w <;> rfl) <|(show n7 (Builtin.Frozenset.updateFrom "set.__init__" (b7 s) (.ref l) >>= _) _ _ _ from eg ?_)
  unfold Builtin.Frozenset.updateFrom Builtin.Frozenset.isAnySet;show eg ?_;show eg<|Vs T F.sub_list_set ?_;show Vs T F.sub_list_frozenset ?_;rw[if_neg<|by decide];show eg<|Wt T ?_;rw[if_neg<|by decide];show eg<|wpAny_pyIter_list H ?_;show eg<|wpAny_runValue ?_;let n:=wc<|vy O;let L:l<(b7 s):=by let(o,e,_):=q;show vy e
  let N:(b7 s)≠l:=Io L;let k:∀b o,tx 0=a8 o->(s.heap.push {cls:=.type "set",data:=.set #[] 0 (VF 0 0 !dR w)}).get? b=a8 o:=λb o e=>X4 e;let Z:=vy O;clear y T O;generalize s.heap.push {cls:=.type "set",data:=.set #[] 0 (VF 0 0 !dR w)}=h0 at*;show Jr (A:=A.in1.in1) (Walks.toS<|Walks.list (A:=A.in1.in1.in1) X h0.objs.size l (wc<|Xd L Z) items) (b7 s) ?_ (λi=>γx 0) (λi v V=>hi.int_at i v<|d0 V) hb items.size 0 _ (Nat.sub_zero _) (w6 _) ⟨(βw (YU rfl) rfl rfl),?_⟩ (t.kept λo e=>X4 e) λg p d=>?_
  ·intro z;rcases v8.mp z with z|z
   ·show n z
   ·show N (vx.mp z)
  ·let(o,(e),r):=H;show ZX (X4 e) r
  ·show vh (vh<|vh ?_);let e:=Moved.eq_with p;rw[e];show h g.heap g.toks d λb o e=>p.heap b o (λz=>?_)<|vi _<|k b o e;rcases v8.mp z with z|z
   ·show wc (vy e) z
   ·show wc (Xd (vy e) Z) (vx.mp z)
def bJ:Slot "set_iterator" (v3 "__next__") "set_iterator.__next__" := Slot.of (owner:="set_iterator") (n:="__next__")
 rfl (by decide +kernel) (by decide +kernel) (by decide +kernel) (.inl<|by decide +kernel) rfl (by decide +kernel)
def tQ:Slot "set_iterator" (v3 "__iter__") "set_iterator.__iter__" := Slot.of (owner:="set_iterator") (n:="__iter__")
 rfl (by decide +kernel) (by decide +kernel) (by decide +kernel) (.inl<|by decide +kernel) rfl (by decide +kernel)
def gH:αH "set_iterator.__next__" = a8 Builtin.«set_iterator.__next__»:=entryFor_of_tree (by rfl)
def zC:αH "set.__iter__" = a8 Builtin.«frozenset.__iter__»:=entryFor_alias (id':="frozenset.__iter__") rfl rfl (by decide +kernel) (by rfl)
def Di:Xb (String.ofList ['r','o','t','a','r','e','t','i','_','t','e','s'].reverse) Manifest.owners=a8 Manifest.sig_set_iterator:=by rfl
def iK(a):argsOk "set_iterator.__next__" ⟨[a],[]⟩:=by unfold argsOk;rw[signature?_of (id:="set_iterator.__next__") (n:=['_','_','t','x','e','n','_','_']) (by rfl) Di];rfl
def rO{α:Type}:∀{l:k_ α}{i:Nat}(h),(l[i]::l.eraseIdx i).Perm l
 |[],i,h=>by simp at h
 |x::l,0,h=>by simp
 |x::l,i+1,h=>by simp;show(List.Perm.swap _ _ _).trans (List.Perm.cons _<|rO<|d0 h)
variable{src:Source}
def wp_choose{Q:c9 Nat}(H:n≠0)(h:∀i d,i<n->Q i { s with drawn:=d}):X9 (choose src n) Q E s:=λz p _=>by show(H,εB<|Nat.mod_lt _<|Nat.pos_of_ne_zero H)
def MI{α:Type}:∀(n)(X:k_ α)(s)(Q),X.l=n->(∀y d,y.Perm X->Q y { s with drawn:=d})->X9 (drawOrder n X) Q E s:=by
 intro n
 induction n with
 |zero=>intro X s Q H h;have:=Wc H;subst this;show vh<|h [] _<|WB _
 |succ n z=>
  intro X s Q H h;cases X with
  |nil=>simp at H
  |cons x l=>
   show(show n7 (choose _ (x::l).length >>= _) _ _ _ from eg (wp_choose (by simp) λi d I=>?_))
   rw[zf I];show eg (z _ _ _ (by rw[List.length_eraseIdx_of_lt I];simp at H⊢;omega) λy D p=>vh<|h _ _ ?_);show(List.Perm.cons _ p).trans (rO I)
def MJ{α:Type}(next):∀(f k)(left:k_ α)(u),left.l=f->(pickOrder.go next f k left u).toList.Perm (u.toList++left):=by
 intro f
 induction f with
 |zero=>intro k left u l;have:=Wc l;subst this;simp[pickOrder.go]
 |succ f i=>
  intro k left u l;let h:next k%left.l<left.l:=Nat.mod_lt _ ⋯
  change(match left[next k%left.length]? with|some x=>pickOrder.go next f _ (left.eraseIdx _) _|none=>u).toList.Perm _
  rw[zf h];show(i _ _ _ (by rw[List.length_eraseIdx_of_lt h];omega)).trans ?_;rw[Array.toList_push,Vw];show List.Perm.append_left _<|rO h
def HV{α:Type}(next)(xs:Array α):(pickOrder next xs).toList.Perm xs.toList:=by have:=MJ next xs.size 0 xs.toList #[] (by simp);unfold pickOrder;simpa using this
abbrev nW(w:j2)(a:h_)(ep:Nat)(es:Array (Int×gV)):Array (Int×gV):=if dR w=true then pickOrder (w.params.setOrder a ep) es else es
def mR{es:Array (Int×gV)}:(Ze 0).toList.Perm es.toList:=by
 unfold nW;split
 ·show HV _ _
 ·show WB _
abbrev slotAt(w:j2)(t:WV)(i:Nat):Nat:=if dR w=true then 0 else if i=0 then 0 else t.place.getD (i-1) 0+1
def Py{es:Array (Int×gV)}{t:WV}(H:TOk (dR w) t)(f:Yt 0=true)(n:dR w=true\/(!t.plain&&decide (es.size>1))=false)(hb:dR w=false):t.place.toList.Pairwise (· < ·):=by
 rcases n with h|h
 ·rw[hb]at h;cases h
 ·cases p:t.plain with
  |true=>exact H.ris p
  |false=>
   rw[p]at h;have:es.size<=1:=by simpa using h
   let S:t.place.size=es.size:=by have:=f;simp[SetTable.fits]at this;show this.1
   have:t.place.toList.l<=1:=by simp;omega
   match l:t.place.toList with
   |[]=>exact Xo
   |[x]=>exact εE _
   |x::y::r=>rw[l]at this;simp at this
def Dj{es:Array (Int×gV)}{t:WV}{Q:l7 (gV×Nat)->g_->Prop}(O:C_ 0=a8 o)(D:o.data=.set es ep t)(k:TOk (dR w) t)(f:Yt 0=true)(n:dR w=true\/(!t.plain&&decide (es.size>1))=false)(hi:i<=es.size)(q:Q ((Ze 0)[i]?.map λe=>(e.2,YE<|i+1)) s):l_ (setNext a (YE i) i ep) Q E s:=by
 show eg<|WQ O D f ?_;show eg<|eg<|Xv<|vh ?_
 change n7 (if dR w=true then _ else _) _ _ _
 by_cases b:dR w=true
 ·rw[if_pos b];show Vq (by simp) <|eg<|eg<|WQ O D f ?_;show eg (eg<|Xv<|vh ?_)
  change n7 (if dR w=true then _ else _) _ _ _
  rw[if_pos b];show eg<|Xv<|vh<|vh ?_;let v:Ze 0=pickOrder _ es:=if_pos b;let z:∀j,YE j=0:=λj=>if_pos b;rw[v,z]at q;rw[z];show q
 ·let B:dR w=false:=by simpa using b
  rw[if_neg b];let r:=Py k f n B;let d:(!t.plain&&decide (es.size>1))=false:=by
   rcases n with h|h
   ·show(b h).elim
   ·show h
  show Vq (show decide ((!t.plain&&εl 0)=true)=false from by rw[d];rfl) ?_
  show eg (Wb (show(if _=true then _ else pure ())=pure () from by rw[k.led B];rfl) (vh ?_))
  let Z:t.place.size=es.size:=by have:=f;simp[SetTable.fits]at this;show this.1
  let L:WC t.place (YE i)=i:=by
   let(c,H):=zA r _;generalize P:WC _ _=p at c H;let m:∀x y(g)(Y:y<t.place.size),x<y->t.place[x]<t.place[y]:=λx y g Y X=>by
    have:=(zp.mp r) x y (d0 g) (d0 Y) X
    simpa using this
   let S:YE i=if i=0 then 0 else t.place.getD (i-1) 0+1:=if_neg b;rw[S]at H;by_cases u:i=0
   ·subst u;rcases Nat.eq_zero_or_pos p with h|h
    ·show h
    ·have:=(H 0 ⋯).mpr h;simp at this
   ·rw[if_neg u]at H;let l:i-1<t.place.size:=⋯;let G:t.place.getD (i-1) 0=t.place[i-1]:=by simp[l]
    rw[G]at H;let W:=(H _ l).mp ⋯;rcases Nat.lt_or_ge i p with h|h
    ·have:=(H i ⋯).mpr h;have:=m _ i l ⋯ ⋯;omega
    ·omega
  rw[L];let v:Ze 0=es:=if_neg b;rw[v]at q;by_cases T:i<es.size
  ·rw[xh T]at q⊢;rw[xh _];let z:YE (i+1)=t.place[i]+1:=by have:YE _=if i+1=0 then 0 else t.place.getD _ 0+1:=if_neg b;rw[this];simp[show i<t.place.size by omega]
   simpa[z] using q
  ·rw[yj ⋯]at q⊢;simpa using q
variable{first:gV}{tp:Nat}
section
variable{es:Array (Int×gV)}{t:WV}
abbrev siO(a:h_)(first:gV)(i n ep:Nat):Obj:={cls:=.type "set_iterator",data:=.fields #[first,.int i 0,.ref a,.int n 0,.int ep 0]}
def Js(h:C_ 0=a8 o)(x:o.ExactSet)(H:o.data=.set es ep t)(f:Yt 0=true)(hz:es.size<=wa)(q:(dR w=true\/(!t.plain&&decide (es.size>1))=false)->Q (.ref<|b7 s) {s with heap:=s.heap.push (δL (.int 0 0) 0 es.size ep)})(z:∀(y:Z5 0) d,y.Perm (xf es.size)->Q (.ref<|s.heap.objs.size+1) {s with heap:=(s.heap.push {cls:=.type "tuple",data:=.seq (y.map λi=>VN (i:Nat) 0).toArray}).push<|siO a (.ref<|b7 s) 0 es.size ep,drawn:=d}):
  l_ (pyIter<|.ref a) Q E s:=by
 let T:s.TypeIs (.ref a) "set" := ZX h x.1;show WN T F.slot_set_iter (yc F.slot_set_iter T zC (show X6 _ from ?_) (F.args_set_iter_1 _))
 show eg<|eg<|vh<|vh ?_;show eg<|eg<|WW h H f<|vh ?_;show eg<|eg<|WQ h H f<|eg<|eg<|Xv<|vh<|vh ?_
 change n7 (if(!(dR w)&&(!t.plain&&εl 0))=true then _ else _) _ _ _
 by_cases c:(!(dR w)&&(!t.plain&&decide (es.size>1)))=true
 ·rw[Za 0];show eg (MI _ _ _ _ (by simp) λy d p=>?_);show eg (wt ?_ ?_)
  ·show eg (wpAny_setEpoch_of (X4 h) H f ?_);show eg<|wt<|vh ⟨_,rfl,"set_iterator",_,(A0 (YU rfl) rfl),bJ.lookup,?_⟩;have:=z y d p;rw[<-Wz _ {cls:=.type "tuple",data:=.seq (y.map λi=>VN (i:Nat) 0).toArray}]at this;show this
  ·change(List.map (λi=>rawInt ((i:Nat):Int)) y).toArray.size<=wa
   have:=p.length_eq;simp at this⊢;omega
 ·rw[βh 0];show eg<|vh ?_;show eg<|wpAny_setEpoch_of h H f ?_;show eg<|wt<|vh ⟨_,rfl,"set_iterator",_,(A0 (YU rfl) rfl),bJ.lookup,q ?_⟩;simp at c;cases b:dR w with
  |true=>exact .inl rfl
  |false=>show .inr ?_;have:=c b;simpa using this
def qG{h1:jo}{fs:K_ 0}{x:gV}{α:Type}{f:Unit->Sem α}{R:α->g_->Prop}(g:h1.get? it=a8 {cls:=.type "set_iterator",data:=.fields fs})(J:j<fs.size)(k:∀h,h.get? it=a8 {cls:=.type "set_iterator",data:=.fields (fs.setIfInBounds j x)}->(∀(b),b≠it->Zm 0=h1.get? b)->Heap.ExtBut it h1 h->l_ (f ()) R E' {s with heap:=h}):
  l_ (setField (.ref it) j x >>= f) R E' {s with heap:=h1}:=by
 show eg<|VE g rfl J ?_;show k _ ?_ (λb H=>(yd ..).2 b H) (yd ..).extBut;rw[yx _ g<|VA<|zw rfl _];simp[VQ]
def Dk(h:αf 0=a8 (δL first i n ep)):s.TypeIs (.ref it) "set_iterator" := A0 h rfl
def HX{Q:l7 gV->g_->Prop}(I:αf 0=a8 (δL (.int (YE i) 0) i es.size ep))(O:C_ 0=a8 o)(d:o.data=.set es ep t)(y:TOk (dR w) t)(f:Yt 0=true)(n:dR w=true\/(!t.plain&&decide (es.size>1))=false)(H:i<es.size)(l)(q:∀h,h.get? it=a8 (δL (.int (YE<|i+1) 0) (i+1) es.size ep)->(∀(b),b≠it->Zm 0=tx 0)->Q (a8 (Ze 0)[i].2) {s with heap:=h}):l_ (pyNext<|.ref it) Q E s:=by
 let T:=Dk I;show eg<|VI<|yb T bJ<|yc bJ T gH ?_<|iK _;show eg<|vh<|eg<|VP I rfl ?_;show(show n7 (setEntries a >>= _) _ _ s from eg (WW O d f ?_))
 show Vq (by simp) <|(show n7 (setNext a _ i ep >>= _) _ _ s from eg (Dj O d y f n (yw H) ?_))
 rw[xh l];show(show n7 (γZ 0 _ >>= _) _ _ {s with heap:=s.heap} from qG I (by simp) λx g k _=>?_)
 show qG g (by simp) λz G K _=>?_;show vh (A0 rfl<|vh<|q z ?_ λb B=>by rw[K b B,k b B]);rw[G];simp[siO,rawInt]
def Jt{Q:l7 gV->g_->Prop}(z:A.handled=a9)(h:αf 0=a8 (δL (.int (YE es.size) 0) es.size es.size ep))(O:C_ 0=a8 o)(d:o.data=.set es ep t)(y:TOk (dR w) t)(f:Yt 0=true)
  (n:dR w=true\/(!t.plain&&decide (es.size>1))=false)
  (q:∀H,Zd H->Q a9 {s with heap:=H}):l_ (pyNext<|.ref it) Q E s:=by
 let T:=Dk h;let S:(Ze 0).size=es.size:=by have:=(mR (w:=w) (a:=a) (ep:=ep) (es:=es)).length_eq;simpa using this
 show eg<|VI<|yb T bJ<|yc bJ T gH ?_<|iK _;show eg<|vh<|eg<|VP h rfl ?_;show(show n7 (setEntries a >>= _) _ _ s from eg (WW O d f ?_))
 show Vq (by simp) <|(show n7 (setNext a _ es.size ep >>= _) _ _ s from eg (Dj O d y f n (vk _) ?_))
 rw[yj ⋯];show(show X6 {s with heap:=s.heap} from qG h (by simp) λv g k x=>?_)
 show(show n7 (newExc _ [] >>= _) _ _ _ from eg ?_);simp[newExc]
 refine eg (wt (eg<|Wb (a:=yf) (by first|rfl|(simp;rfl))<|wt ?_<|by size_fits)<|by size_fits)
 show eg<|wpAny_handled ?_;rw[show A.in1.handled=a9 from z]
 show eg<|vh<|wpAny_throw ?_;show eg<|Vs (A0 (YU rfl) rfl) isSubtype_stop ?_;show vh<|q _<|(x.push _).push _
abbrev B0(ys:Z5 0):Obj:={cls:=.type "tuple",data:=.seq (ys.map λi=>VN (i:Nat) 0).toArray}
def HY{p:Nat}{e:Int×gV}{ys:Z5 0}{Q:l7 gV->g_->Prop}(I:αf 0=a8 (δL (.ref tp) i es.size ep))(H:s.heap.get? tp=a8 (B0 ys))(O:C_ 0=a8 o)(d:o.data=.set es ep t)(f:Yt 0=true)(P:ys[i]?=a8 p)(v:es[p]?=a8 e)(q:∀h,h.get? it=a8 (δL (.ref tp) (i+1) es.size ep)->(∀(b),b≠it->Zm 0=tx 0)->Q (a8 e.2) {s with heap:=h}):l_ (pyNext<|.ref it) Q E s:=by
 let T:=Dk I;show eg<|VI<|yb T bJ<|yc bJ T gH ?_<|iK _;show eg<|vh<|eg<|VP I rfl ?_;show(show n7 (setEntries a >>= _) _ _ s from eg (WW O d f ?_))
 show Vq (by simp) <|(show X6 s from eg (eg<|wpAny_load H<|show n7 (pure _) _ _ s from vh ?_))
 let z:(ys.map λi=>VN (i:Nat) 0).toArray[((i):Int).toNat]?=a8 (.int p 0):=by simp[P]
 show(show n7 (match(ys.map λi=>VN (i:Nat) 0).toArray[((i):Int).toNat]? with|some (VN place tok)=>_|some val=>_|none=>_) _ _ s from ?_)
 rw[z];show eg<|eg<|WQ O d f ?_;show Vq (by simp) <|(show n7 (match es[p]? with|some (fst,x)=>pure x|x=>_) _ _ s from ?_)
 rw[v];show vh <|(show n7 (γZ 1 _ >>= _) _ _ {s with heap:=s.heap} from qG I (by simp) λy g k _=>?_)
 show vh<|I1b _ rfl<|vh<|q y ?_ k;rw[g];simp[siO,rawInt]
def Ju{ys:Z5 0}{Q:l7 gV->g_->Prop}(z:A.handled=a9)(h:αf 0=a8 (δL (.ref tp) es.size es.size ep))(p:s.heap.get? tp=a8 (B0 ys))(O:C_ 0=a8 o)(d:o.data=.set es ep t)(f:Yt 0=true)(y:ys.l=es.size)(q:∀H,Zd H->Q a9 {s with heap:=H}):l_ (pyNext<|.ref it) Q E s:=by
 let T:=Dk h;show eg<|VI<|yb T bJ<|yc bJ T gH ?_<|iK _;show eg<|vh<|eg<|VP h rfl ?_;show(show n7 (setEntries a >>= _) _ _ s from eg (WW O d f ?_))
 show Vq (by simp) <|(show X6 s from eg (eg<|wpAny_load p<|show X6 s from vh ?_))
 let e:(ys.map λi=>VN (i:Nat) 0).toArray[((es.size:Nat):Int).toNat]?=a9:=by simp[y]
 show(show n7 (match(ys.map λi=>VN (i:Nat) 0).toArray[((es.size:Nat):Int).toNat]? with|some (VN place tok)=>_|some val=>_|none=>_) _ _ s from ?_)
 rw[e];show(show X6 {s with heap:=s.heap} from qG h (by simp) λv g k x=>?_)
 show qG g (by simp) λu G K X=>?_;show(show n7 (newExc _ [] >>= _) _ _ _ from eg ?_);simp[newExc]
 refine eg (wt (eg<|Wb (a:=yf) (by first|rfl|(simp;rfl))<|wt ?_<|by size_fits)<|by size_fits)
 show eg<|wpAny_handled ?_;rw[show A.in1.handled=a9 from z]
 show eg<|vh<|wpAny_throw ?_;show eg<|Vs (A0 (YU rfl) rfl) isSubtype_stop ?_;show vh<|q _<|((x.trans X).push _).push _
end
def Ca:typeLookup (Value.type "set") (v3 "__len__")=pure (a8<|Value.builtin "set.__len__"):=by rw[typeLookup_type,builtinLookup_eq_fast];rfl
def B1:αH "set_iterator.__iter__" = a8 Builtin.«dict_keyiterator.__iter__»:=entryFor_alias (id':="dict_keyiterator.__iter__") rfl rfl (by decide +kernel) (by rfl)
def Cb(a):argsOk "set_iterator.__iter__" ⟨[a],[]⟩:=by let e:=signature?_of (id:="set_iterator.__iter__") (n:=['_','_','r','e','t','i','_','_']) (by rfl) Di;unfold argsOk;rw[e];rfl
section
variable{es:Array (Int×gV)}{t:WV}
def Jv{Q:c9 Bool}(T:s.TypeIs (.ref a) "set")(q:Q false s):l_ (Builtin.List.listLengthHint<|.ref a) Q E s:=by show eg<|Xf T Ca ?_;show eg<|Vs T sub_set_self ?_;show wpAny_ite_split (λh=>Y2<|by decide) λ_=>?_;show wpAny_ite_split (λ_=>eg<|Wt T<|vh q) λh=>?_;show absurd (by decide) h
def Dl(I:αf 0=a8 (δL first i n ep))(q:Q (.ref it) s):l_ (pyIter<|.ref it) Q E s:=by
 let h:=Dk I;show WN h tQ (yc tQ h B1 (show X6 _ from ?_) (Cb _))
 show eg<|vh ?_;show vh ⟨_,rfl,"set_iterator",_,h,bJ.lookup,q⟩
def EV(y:A.handled=a9)(N:a≠it)(d:o.data=.set es ep t)(T:TOk (dR w) t)(f:Yt 0=true)(n:dR w=true\/(!t.plain&&decide (es.size>1))=false):
  αz A it [it,a] [it] es.size (λi v=>(Ze 0)[i]?.map (·.2)=a8 v) (λi h=>h.get? it=a8 (δL (.int (YE i) 0) i es.size ep)/\YC 0=a8 o):=by
 let S:(Ze 0).size=es.size:=by have:=(mR (w:=w) (a:=a) (ep:=ep) (es:=es)).length_eq;simpa using this
 show(λb B=>by simp at B;simp[B],λi h z H k=>⟨k it (by simp) _ H.1,k a (by simp) _ H.2⟩,λi s Q E I H q=>?_,λs Q E H q=>?_,λi s Q E H q=>?_)
 ·let l:i<(Ze 0).size:=⋯;show HX H.1 H.2 d T f n I l λz g k=>q _ z _ (by rw[xh l];rfl) ⟨g,by rw[k a N];show H.2⟩ λb O B e=>by rw[k b<|d0 B];show e
 ·show Jt y H.1 H.2 d T f n λz k=>q z _ λb O B e=>k b O (d0 B) e
 ·show Dl H.1 q
def EW{ys:Z5 0}(m:A.handled=a9)(n:a≠it)(N:tp≠it)(d:o.data=.set es ep t)(f:Yt 0=true)(Y:ys.Perm (xf es.size)):
  αz A it [it,tp,a] [it] es.size (λi v=>∃p e,ys[i]?=a8 p/\es[p]?=a8 e/\v=e.2) (λi h=>h.get? it=a8 (δL (.ref tp) i es.size ep)/\h.get? tp=a8 (B0 ys)/\YC 0=a8 o):=by
 let l:ys.l=es.size:=by have:=Y.length_eq;simpa using this
 show(λb B=>by simp at B;simp[B],λi h z H k=>⟨k it (by simp) _ H.1,k tp (by simp) _ H.2.1,k a (by simp) _ H.2.2⟩,λi s Q E I H q=>?_,λs Q E H q=>?_,λi s Q E H q=>?_)
 ·let u:i<ys.l:=⋯;let y:=zf u;let r:ys[i]<es.size:=by have:=Y.mem_iff.mp<|VL u;simpa using this
  let x:=xh r;show HY H.1 H.2.1 H.2.2 d f y x λz g k=>q _ z _ (αF y x rfl) ⟨g,by rw[k tp N];show H.2.1,by rw[k a n];show H.2.2⟩ λb O B e=>by rw[k b<|d0 B];show e
 ·show Ju m H.1 H.2.1 H.2.2 d f l λz k=>q z _ λb O B e=>k b O (d0 B) e
 ·show Dl H.1 q
def EX(hh:A.handled=a9)(Z:C_ 0=a8 o)(E:o.ExactSet)(hd:o.data=.set es ep t)(ht:TOk (dR w) t)(hf:Yt 0=true)(hz:es.size<=wa)(S:h_)(j:S≠a)(r:gV)(u:Nat)(hS:s.heap.get? S=a8 {cls:=.type "list",data:=.seq #[] u})(hR:∀h' d tk (c:K_ 0) C,(∀b o,b≠S->tx 0=a8 o->YI 0=a8 o)->h'.get? S=a8 {cls:=.type "list",data:=.seq c C}->c.toList.Perm (es.toList.map (·.2))->R (.ok<|.ret r) {s with heap:=h',drawn:=d,toks:=tk}):
  Y4 (Xl (.ref S) (.ref a) r) (λn y=>match n with|.done f=>R (.ok f) y|.again C=>C.quiet=true/\codeAny (L_ w) A C R y) (λe y=>R (.error e) y) s:=by
 have hT:s.TypeIs (.ref a) "set" := ZX Z E.1
 have L:=vy Z
 have l:=vy hS
 unfold Xl
 show eg<|Wt hT ?_
 have hc:(XC (.ref S) (.ref a) || Value.type "set" == Value.type "list" || Value.type "set" == Value.type "tuple")=false:=by
  have:XC (.ref S) (.ref a)=false:=by simp[XC,j]
  rw[this]
  decide
 rw[hc,if_neg wg]
 have T:∀{v:g_}{I:h_}{fp:k_ h_}{P:Nat->gV->Prop}{G:Nat->jo->Prop},αz A.in1 I fp [I] es.size P G->S∉fp->G 0 v.heap->I≠S->v.heap.get? S=a8 {cls:=.type "list",data:=.seq #[] u}->v.TypeIs (.ref a) "set" -> v.gens=s.gens->v.os=s.os->
   (∀b o,tx 0=a8 o->v.heap.get? b=a8 o)->(b7 s)<=I->(∀c,ItemsOf P c es.size->c.toList.Perm (es.toList.map (·.2)))->
   ∀{f:Bool->Sem PySem.Fin},(∀b,f b=(if(b || false)=true then(do rule "list.extend.makes-room";W7 (.ref S);again (.builtin "list.extend.loop" ⟨[.ref S,.ref I,r],[]⟩)) else again (.builtin "list.extend.loop" ⟨[.ref S,.ref I,r],[]⟩))\/
    f b=(do rule "list.extend.makes-room";W7 (.ref S);again (.builtin "list.extend.loop" ⟨[.ref S,.ref I,r],[]⟩)))->
   Y4 (holding [yg I] (Builtin.List.listLengthHint<|.ref a) >>= f) (λn y=>match n with|.done f=>R (.ok f) y|.again C=>C.quiet=true/\codeAny (L_ w) A C R y) (λe y=>R (.error e) y) v:=by
  intro v I fp P G W X M hIS k hT1 hg j5 kp hI hit f hf'
  have J:∀h q tk,G 0 h->(∀b o,b≠S->v.heap.get? b=a8 o->Zm 0=a8 o)->h.get? S=a8 {cls:=.type "list",data:=.seq #[] q}->codeAny (L_ w) A (.builtin "list.extend.loop" ⟨[.ref S,.ref I,r],[]⟩) R { v with heap:=h,toks:=tk}:=by
   intro h q tk K hk hS2
   show codeAny_extend_loopS (Walks.toS W) hz S X r es.size 0 _ #[] q (Nat.sub_zero _) (w6 _) K hS2 (ItemsOf.nil P) λy c C hm sy U=>?_
   have e:=Moved.eq_with hm
   rw[e]
   have:=hR y.heap v.drawn y.toks c C (λb o B e=>hm.heap b o (λz=>?_)<|hk b o B<|kp b o e) sy<|hit c U
   ·rw[<-hg,<-j5]at this
    exact this
   ·rcases v8.mp z with z|z
    ·exact B z
    ·have m:=vy e
     exact absurd (vx.mp z▸m)<|Nat.not_lt.mpr hI
  show eg<|yq<|Jv hT1 ?_
  have O:Y4 (do rule "list.extend.makes-room";W7 (.ref S);again (.builtin "list.extend.loop" ⟨[.ref S,.ref I,r],[]⟩)) (λn y=>match n with|.done f=>R (.ok f) y|.again C=>C.quiet=true/\codeAny (L_ w) A C R y) (λe y=>R (.error e) y) v:=by
   show eg<|W5<|eg ?_
   unfold W7
   show eg<|wpAny_updateSeq k rfl ?_
   have H:=yx (yk λx=>x.push yf) k rfl
   show wpAny_updateSeq H rfl ?_
   have g:=yx (yk λx=>x.pop) H rfl
   show vh ⟨WU F.plain_extend_loop _,J _ _ _ (W.frame 0 v.heap _ M λb B o e=>?_) (λb o B e=>?_) g⟩
   ·have Q:b≠S:=λh=>X (h▸B)
    exact(zt _ _<|xy Q).trans ((zt _ _<|xy Q).trans e)
   ·exact(zt _ _<|xy B).trans ((zt _ _<|xy B).trans e)
  rcases hf' false with h|h
  ·rw[h,if_neg<|by decide]
   exact vh ⟨WU F.plain_extend_loop _,J v.heap _ v.toks M (λb o _ e=>e) k⟩
  ·rw[h]
   exact O
 show eg<|Js Z E hd hf hz (λt8=>?_) λY d hp=>?_
 ·show T (v:={s with heap:=s.heap.push (δL (.int 0 0) 0 es.size ep)}) (EV (A:=A.in1) hh (wc L) hd ht hf t8) ?_ ⟨?_,X4 Z⟩ (Io l) (X4 hS) ⟨o,X4 Z,E.1⟩ rfl rfl (λb o e=>X4 e) (vk _) (λc V=>?_) (λb=>?_)
  ·intro z
   rcases v8.mp z with z|z
   ·exact wc l z
   ·exact j (vx.mp z)
  ·have e0:YE 0=0:=by unfold slotAt;split <;> rfl
   rw[e0]
   exact YU rfl
  ·have hsz:(Ze 0).size=es.size:=by have:=(mR (w:=w) (a:=a) (ep:=ep) (es:=es)).length_eq;simpa using this
   have:c.toList=(Ze 0).toList.map (·.2):=by
    apply Vy
    intro i
    rw[wm,VB,VB]
    by_cases N:i<c.size
    ·have e:=V.2 i c[i] (xh N)
     rw[xh N]
     exact e.symm
    ·have m:=V.1
     rw[yj ⋯,yj ⋯]
     rfl
   rw[this]
   exact mR.map _
  ·cases b <;> first|exact Or.inl rfl|exact Or.inr rfl
 ·have t9:(s.heap.push<|B0 Y).objs.size=(b7 s)+1:=Wz ..
  have gS:(s.heap.push<|B0 Y).get? S=a8 {cls:=.type "list",data:=.seq #[] u}:=X4 hS
  have ga:(s.heap.push<|B0 Y).get? a=a8 o:=X4 Z
  have gt:(s.heap.push<|B0 Y).get? (b7 s)=a8 (B0 Y):=YU rfl
  show T (v:={s with heap:=(s.heap.push<|B0 Y).push<|siO a (.ref<|b7 s) 0 es.size ep,drawn:=d}) (EW (A:=A.in1) (it:=(b7 s)+1) (tp:=(b7 s)) hh (wc<|Wl L) (wc<|VY _) hd hf hp) ?_ ⟨?_,X4 gt,X4 ga⟩ (Io<|Wl l) (X4 gS) ⟨o,X4 ga,E.1⟩ rfl rfl (λb o e=>X4<|vi _ e) (XH _) (λc V=>?_) (λb=>?_)
  ·intro z
   rcases v8.mp z with z|z
   ·exact wc (Wl l) z
   rcases v8.mp z with z|z
   ·exact wc l z
   ·exact j (vx.mp z)
  ·have:=vq (s.heap.push<|B0 Y) (o:=δL (.ref<|b7 s) 0 es.size ep) rfl
   rw[t9]at this
   exact this
  ·have hl:Y.l=es.size:=by have:=hp.length_eq;simpa using this
   have:c.toList=Y.map λp=>(es.toList.map (·.2)).getD p .none:=by
    apply Vy
    intro i
    rw[wm,VB]
    by_cases N:i<c.size
    ·let(p,e,(m),D,h3):=V.2 i c[i]<|xh N
     rw[xh N,m,h3]
     simp[D]
    ·have m:=V.1
     rw[yj ⋯,VW ⋯]
     rfl
   rw[this]
   show(hp.map _).trans ?_
   have e2:(xf es.size).map (λp=>(es.toList.map (·.2)).getD p .none)=es.toList.map (·.2):=by
    apply Xw
    ·simp
    ·intro i m D
     simp at m D
     simp[D]
   rw[e2]
  ·cases b <;> first|exact Or.inl rfl|exact Or.inr rfl
end
open PySem.SeqAt PySem.W
abbrev jR(b:Bool)(n i:Nat):Nat:=if b then n-1-i else i
abbrev Dm(b:Bool)(n:Nat)(p:Z5 0):Z5 0:=YL<|p.map<|jR b n
def oH{α:Type}(b){l:k_ α}{d:α}(hi:i<l.l):(YL l).getD i d=l.getD (jR b l.l i) d:=by
 cases b with
 |false=>rfl
 |true=>
  change l.reverse.getD i d=l.getD (l.l-1-i) d
  rw[List.getD_eq_getElem?_getD,List.getD_eq_getElem?_getD,List.getElem?_reverse hi]
def iU(h:i<n):jR b n i<n:=by unfold jR;split <;> omega
def EY{p:Z5 0}(h:p.Perm (xf n)):(Dm b n p).Perm (xf n):=by
 cases b with
 |false=>
  let e:Dm false n p=p:=by
   change p.map (λi=>jR false n i)=p
   have:(λi=>jR false n i)=id:=by funext i;rfl
   rw[this,List.map_id]
  rw[e];show h
 |true=>
  let e:(xf n).map (jR true n)=(xf n).reverse:=by
   apply Xw
   ·simp
   ·intro i H z;simp[jR]
  show(βi 0).trans ((h.map _).trans ?_);rw[e];show βi 0
def EZ{p:Z5 0}{lt:Nat->Nat->Bool}(h:p.Pairwise (λi j=>lt (jR b n j) (jR b n i)=false)):(Dm b n p).Pairwise (λi j=>(if b then lt i j else lt j i)=false):=by
 let H:(p.map _).Pairwise (λi j=>lt j i=false):=yy.mpr h;cases b with
 |false=>exact H
 |true=>
  change((p.map _).reverse).Pairwise _
  rw[List.pairwise_reverse];show H
def HZ{p:Z5 0}(h:∀i∈p,i<vs.l):YL (p.map λi=>(YL vs).getD i yf)=(Dm b vs.l p).map λi=>YK 0:=by
 let e:(p.map λi=>(YL vs).getD i yf)=(p.map<|jR b vs.l).map λi=>YK 0:=by rw[w9];show y4 λi H=>oH b<|h i H
 rw[e];unfold Dm katRev;split
 ·rw[List.map_reverse]
 ·rfl
def F0{α:Type}(b)(l:k_ α):YL (YL l)=l:=by unfold katRev;split <;> simp
def range_getD(vs):((xf vs.l).map λi=>YK 0)=vs:=by
 apply Vy;intro i;by_cases h:i<vs.l
 ·simp[h]
 ·simp[h]
variable{e1:Nat}{kS:h_}{out:YX 0}
def Oj{ks:YX 0}{st:SortSt}{e:Nat}{P:PySem.Fin->g_->Prop}(dy:(arrOf st).map (·.2)=out.toArray)(hz:out.l<64)(hkz:ks.l<64)(hf:failedOf st=a9)(i6:kS≠a)(gk:s.heap.get? kS=a8 (seqObj "list" ks.toArray e))(ga:C_ 0=a8 (seqObj "list" #[] e1))(h:∀(h')(c),(∀x o,x≠a->x≠kS->ζk 0=a8 o->h'.get? x=a8 o)->ε0 0=a8 (seqObj "list" (YL out).toArray c)->(∃o,h'.get? kS=a8 o)->P (.done<|.ret .none) {s with heap:=h'}):
  l_ (ksk_tail a b e1 (.ref kS) st) P E s:=by
 let w1:=yd s.heap kS<|yk λ_=>(#[]:K_ 0);obtain⟨ck,hck⟩:∃ck,(δi<|yk λ_=>(#[]:K_ 0)).get? kS=a8 _:=⟨_,Xi gk λ_=>#[]⟩;let lx:=(w1.2 a i6.symm).trans ga;let w2:=yd (δi<|yk λ_=>(#[]:K_ 0)) a<|yk λ_=>(YL out).toArray;obtain⟨c2,iy⟩:∃c2,((δi<|yk λ_=>(#[]:K_ 0)).update a<|yk λ_=>(YL out).toArray).get? a=a8 _:=⟨_,Xi lx λ_=>(YL out).toArray⟩;unfold ksk_tail
 try dsimp only
 rw[dy,kat_outs];show eg (Ww gk rfl ?_ (by rw[v9,yt];omega)<|w6 _);show eg<|wpAny_letGo<|eg<|seqEpoch_at lx rfl ?_;show eg (Ww lx rfl ?_ (w6 _)<|vz (WR<|by rw[v9,kat_len]) (by rw[yt];omega));rw[hf];simp;show vh<|h _ c2 (λx o h1 h2 q=>(w2.2 x h1).trans<|(w1.2 x h2).trans q) iy ⟨_,(w2.2 kS i6).trans hck⟩
def Us{ks:YX 0}{e:Nat}{P:PySem.Fin->g_->Prop}(lt:Nat->Nat->Bool)(L:ks.l=vs.l)(y:vs.l<64)(K:kS≠a)(M:∀i j k,i<vs.l->j<vs.l->k<vs.l->lt j i=false->lt k j=false->lt k i=false)(as:∀i j,i<vs.l->j<vs.l->lt i j=true->lt j i=false)(X:s.heap.get? kS=a8 (seqObj "list" ks.toArray e))(G:C_ 0=a8 (seqObj "list" #[] e1))(m:2<=vs.l->∀(Q) E',Q κ s->l_ (keyKind' ks.toArray) Q E' s)(T:∀i j,i<vs.l->j<vs.l->∀Q,Q (lt i j) s->l_ (δI (ks.getD i yf) (ks.getD j yf)) Q (λ_ _=>False) s)(h:∀(p:Z5 0)(z:jo)(c:Nat),p.Perm (xf vs.l)->p.Pairwise (λi j=>(if b then lt i j else lt j i)=false)->(∀x o,x≠a->x≠kS->ζk 0=a8 o->z.get? x=a8 o)->
   z.get? a=a8 (seqObj "list" (p.map λi=>YK 0).toArray c)->(∃o,z.get? kS=a8 o)->P (.done (.ret .none)) {s with heap:=z}):
  l_ (ksk_end a b vs.toArray e1 (.ref kS) ks.toArray) P E s:=by
 have skip:∀t,l_ t P E s->αG A (if b=true then(do let _ <-rule "list.sort.reverse";t) else t) P E s:=λt W=>by
  split
  ·exact eg (W5 W)
  ·exact W
 have l:(YL ks).length=(YL vs).length:=by rw[kat_len,kat_len,L]
 show skip _ ?_
 rw[kat_pairs b L]
 by_cases v:vs.toArray.size<2
 ·rw[if_pos v,if_pos v]
  rw[v9]at v
  show eg<|vh ?_
  show eg<|vh ?_
  show Oj (st:=SortSt.mk' general' _ #[] 7 a9) (out:=YL vs) (ks:=ks) ?_ (by rw[kat_len];exact y) ⋯ rfl K X G λz c g r f=>?_
  ·apply Array.toList_inj.mp
   rw[Array.toList_map,ksk_zip]
   rw[List.map_snd_zip (by rw[l];exact vk _)]
  ·rw[F0]at r
   show h _ z c (WB _) ?_ g (by rw[range_getD];exact r) f
   rw[zp]
   intro i j H J I
   simp only[WM]at H J
   omega
 ·rw[if_neg v,if_neg v]
  rw[v9]at v
  show eg<|m ⋯ _ _ ?_
  have u:(kas_sort (YL vs).length).kasWp (kas_ask prog w A κ<|katRev b ks) (λp Z=>p=evT (λi j=>lt (jR b vs.l i)<|jR b vs.l j) (ζh 0)/\Z=s) s:=by
   rw[kat_len]
   show yY (lt:=λi j=>lt _ _) (λi j C H J N=>?_) (yX ⋯) ⟨rfl,rfl⟩
   show αG A (δI _ _) C (λ_ _=>False) s
   rw[oH b ⋯,oH b ⋯,L]
   exact T _ _ (iU H) (iU J) C N
  show eg (zh (kat_run (E:=E) (Q:=λS d=>d=s/\arrOf S=(evT (λi j=>lt _ _) (ζh 0)).map (kas_item _)/\failedOf S=a9)
   l (by rw[kat_len];omega) (by rw[kat_len];exact y) (λp S d _ V U Y=>⟨Y.2,by rw[V,Y.1],U⟩) u) ?_ λ_ _ x=>x)
  rintro⟨⟨⟩,S⟩ d ⟨rfl,R,F⟩
  let(q,O):=De (lt:=λi j=>lt (jR b vs.l i) _) (λi j k H J m=>M _ _ _ (iU H) (iU J)<|iU m) (λi j H J=>as _ _ (iU H)<|iU J) ⋯
  have n:∀i∈(evT (λi j=>lt _ _)<|kas_sort vs.l).toList,i<vs.l:=λi H=>by simpa using q.mem_iff.mp H
  show Oj (ks:=ks) (kat_snds l R) (by rw[vn,q.length_eq,WM];exact y) ⋯ F K X G λz c g r f=>?_
  rw[HZ n]at r
  exact h _ z c (EY q) (EZ O) g r f
def F5{f:gV}{P:PySem.Fin->g_->Prop}(ho:C_ 0=a8 (seqObj "list" vs.toArray n))(jg:vs.l<64)(J:h_->Nat->YX 0->Nat->g_->Prop)(h0:∀(z p)(h'),(∀x o,x≠a->ζk 0=a8 o->h'.get? x=a8 o)->(b7 s)<=z->ε0 0=a8 (seqObj "list" #[] p)->h'.get? z=a8 (seqObj "list" #[] 0)->J z p [] 0 {s with heap:=h'})(f7:∀z p h e k,J z p h e k->z≠a/\k.heap.get? a=a8 (seqObj "list" #[] p)/\k.heap.get? z=a8 (seqObj "list" h.toArray e))(turn:∀z p h e k x,vs[h.length]?=a8 x->J z p h e k->l_ (call f [x]) (λv q=>q.heap.get? z=a8 (seqObj "list" h.toArray e)/\∀(h') e',VJ z q.heap h'->h'.get? z=a8 (seqObj "list" (h++[v]).toArray e')->J z p (h++[v]) e' { q with heap:=h'}) (λ_ _=>False) k)(fin:∀z p h e k,h.l=vs.l->J z p h e k->∃y:Nat->Nat->Bool,(∀i j k,i<vs.l->j<vs.l->k<vs.l->y j i=false->y k j=false->y k i=false)/\(∀i j,i<vs.l->j<vs.l->y i j=true->y j i=false)/\
   (2<=vs.l->∀(Q) E',Q κ k->l_ (keyKind' h.toArray) Q E' k)/\
   (∀i j,i<vs.l->j<vs.l->∀Q,Q (y i j) k->l_ (δI (h.getD i yf)<|h.getD j yf) Q (λ_ _=>False) k)/\
   ∀(p:Z5 0)(h')(c),p.Perm (xf vs.l)->p.Pairwise (λi j=>(if b then y i j else y j i)=false)->(∀x o,x≠a->x≠z->k.heap.get? x=a8 o->h'.get? x=a8 o)->
   ε0 0=a8 (seqObj "list" (p.map λi=>YK 0).toArray c)->(∃o,h'.get? z=a8 o)->P (.done (.ret .none)) { k with heap:=h'}):
  l_ (ksk_tree a f b) P E s:=by
 let ha:=vy ho;let w1:=yd s.heap a<|yk λ_=>(#[]:K_ 0);obtain⟨p,ho1⟩:∃p,(A_<|yk λ_=>(#[]:K_ 0)).get? a=a8 _:=⟨_,Xi ho λ_=>#[]⟩;show eg (listItems_at ho rfl<|eg<|Ww ho rfl ?_ (by rw[v9,yt];omega)<|w6 _);show eg (seqEpoch_at ho1 rfl<|eg<|wpAny_newTuple ?_ (by change vs.l<=_;rw[yt];omega));show eg<|wpAny_newList (yq ?_)<|w6 _;let sr:((A_<|yk λ_=>(#[]:K_ 0)).push<|seqObj "tuple" vs.toArray 0).objs.size=(b7 s)+1:=by simp
 let y:=h0 ((A_<|yk λ_=>(#[]:K_ 0)).push _).objs.size p (((A_<|yk λ_=>(#[]:K_ 0)).push _).push _)
  (λx o hx q=>X4<|vi _<|(w1.2 x hx).trans q) (by rw[sr];show XH _) (X4<|vi _ ho1) (YU rfl)
 change αG A (ksk_rest a f b _ p<|.ref ((A_<|yk λ_=>(#[]:K_ 0)).push _).objs.size) P E {s with heap:=((A_<|yk λ_=>(#[]:K_ 0)).push _).push _}
 generalize ((A_<|yk λ_=>(#[]:K_ 0)).push _).objs.size=z at y
 revert y
 generalize ({s with heap:=((A_<|yk λ_=>(#[]:K_ 0)).push _).push _}:g_)=s0;intro y;show eg<|W5 ?_
 first
  |rw[List.forIn_toArray]
  |(rw[<-Array.forIn_toList];simp[List.toList_toArray])
 show eg<|ksk_fold (λi k=>∃h e,h.l=i/\J z p h e k) vs 0 s0 (I2b [] 0 rfl y) ?step ?done
 case step=>
  rintro j x k hx ⟨h,e,hl,hJ⟩;let hj:=(vg.mp hx).1;let Q:h.l=j:=⋯;show eg (VI<|zh (turn z p h e k x (by rw[Q];show hx) hJ) (λv q q=>?_) λ_ _ z=>z.elim);let(gk,uo):=q;let w2:=yd q.heap z (yk (·.push v));obtain⟨c2,iy⟩:∃c2,(q.heap.update z (yk (·.push v))).get? z=a8 _:=⟨_,Xi gk _⟩;show eg (Ww gk rfl ?_ (by rw[v9,yt];omega)<|vz (WR<|Array.size_push ..) (by rw[v9,yt];omega));show vh ⟨rfl,h++[v],c2,by simp;omega,uo _ c2 w2 ?_⟩;rw[iy];simp
 case done=>
  rintro k ⟨h,e,hl,hJ⟩;let Q:h.l=vs.l:=⋯;let((i6),ga,gk):=f7 z p h e k hJ;let(y,(tr),as,hk,gm,h):=fin z p h e k Q hJ;show eg<|listItems_at gk rfl ?_;show Us y Q jg i6 tr as gk ga hk gm h
open PySem.SeqAt
inductive PV where
 |non|bl (b:Bool)|int (i:Int)|str (x:Str)|tup (xs:k_ PV)|ref (n:Nat)|ty (n:String)|fl (xs:k_ PV)
mutual
def PV.beq:PV->PV->Bool
 |.non,.non=>true
 |.bl a,.bl b=>a == b
 |.int a,.int b=>a == b
 |.str a,.str b=>a == b
 |.tup a,.tup b=>PV.beqs a b
 |.ref a,.ref b=>a == b
 |.ty a,.ty b=>a == b
 |.fl a,.fl b=>PV.beqs a b
 |_,_=>false
def PV.beqs:E_ 0->E_ 0->Bool
 |[],[]=>true
 |x::xs,y::ys=>ζl y&&PV.beqs xs ys
 |_,_=>false
end
mutual
theorem PV.beq_self:∀x:PV,ζl x=true
 |.non=>rfl
 |.bl a=>αl 0
 |.int a=>αl 0
 |.str a=>αl 0
 |.tup a=>PV.beqs_self a
 |.ref a=>αl 0
 |.ty a=>αl 0
 |.fl a=>PV.beqs_self a
theorem PV.beqs_self:∀x:E_ 0,PV.beqs x x=true
 |[]=>rfl
 |x::xs=>Xr.mpr ⟨PV.beq_self x,δj 0⟩
end
mutual
theorem PV.beq_eq:∀{x y:PV},ζl y=true->x=y
 |.non,y,h=>by cases y <;> first|rfl|exact Y2 wg
 |.bl a,y,h=>by cases y <;> first|exact Y2 wg|exact congrArg PV.bl (eq_of_beq<|show(a == _)=true from h)
 |.int a,y,h=>by cases y <;> first|exact Y2 wg|exact congrArg PV.int (eq_of_beq<|show(a == _)=true from h)
 |.str a,y,h=>by cases y <;> first|exact Y2 wg|exact congrArg PV.str (eq_of_beq<|show(a == _)=true from h)
 |.tup a,y,h=>by cases y <;> first|exact Y2 wg|exact congrArg PV.tup (PV.beqs_eq h)
 |.ref a,y,h=>by cases y <;> first|exact Y2 wg|exact congrArg PV.ref (eq_of_beq<|show(a == _)=true from h)
 |.ty a,y,h=>by cases y <;> first|exact Y2 wg|exact congrArg PV.ty (eq_of_beq<|show(a == _)=true from h)
 |.fl a,y,h=>by cases y <;> first|exact Y2 wg|exact congrArg PV.fl (PV.beqs_eq h)
theorem PV.beqs_eq:∀{x y:E_ 0},PV.beqs x y=true->x=y
 |[],y,h=>by cases y <;> first|rfl|exact Y2 wg
 |x::xs,y,h=>by
  cases y with
  |nil=>exact Y2 wg
  |cons y ys=>
   let h:=Xr.mp (show(ζl y&&PV.beqs xs ys)=true from h)
   rw[PV.beq_eq h.1,PV.beqs_eq h.2]
end
instance:DecidableEq PV:=λx y=>match h:ζl y with
 |true=>isTrue (PV.beq_eq h)
 |false=>isFalse λe=>by rw[e,PV.beq_self]at h;cases h
abbrev PV.ky:Nat->PV->Bool
 |_,.int _=>true
 |_,.str _=>true
 |n+1,.tup xs=>xs.all (PV.ky n)
 |_,_=>false
section
variable(w:j2)
mutual
def hsh:PV->Int
 |.int i=>OK w (.inl i)
 |.str x=>OK w (.inr x)
 |.tup xs=>reduceHash (WE<|B2 xs)
 |_=>0
def B2:E_ 0->YV 0
 |[]=>[]
 |x::xs=>hsh x::B2 xs
end
end
mutual
def drw:PV->Nat
 |.tup xs=>Dn xs+1
 |_=>1
def Dn:E_ 0->Nat
 |[]=>0
 |x::xs=>drw x+Dn xs
end
mutual
def HR(h:jo):PV->gV->Prop
 |.int i,v=>∃t,v=.int i t
 |.str x,v=>∃t,v=.str x t
 |.tup ps,v=>∃a its,v=.ref a/\γy its.toArray/\βL its
 |_,_=>False
def HRs(h:jo):E_ 0->YX 0->Prop
 |[],[]=>True
 |p::ps,v::vs=>HR h p v/\βL vs
 |[],_::_=>False
 |_::_,[]=>False
end
def HRs.length{h:jo}:∀{ps:E_ 0}{vs:YX 0},βL vs->ps.l=vs.l
 |[],[],_=>rfl
 |_::_,_::_,r=>congrArg _ (HRs.length r.2)
 |[],_::_,r=>r.elim
 |_::_,[],r=>r.elim
def HRs.at{h:jo}:∀{ps:E_ 0}{vs:YX 0}{j:Nat}{p:PV},βL vs->ps[j]?=a8 p->∃v,vs[j]?=a8 v/\HR h p v
 |[],[],_,_,_,e=>by simp at e
 |q::_,v::_,0,p,r,e=>by
  have:q=p:=by simpa using e
  subst this;show εC rfl r.1
 |_::ps,_::vs,j+1,p,r,e=>by
  let(v,(H),z):=HRs.at r.2<|d0 e;show εC (d0 H) z
 |[],_::_,_,_,r,_=>r.elim
 |_::_,[],_,_,r,_=>r.elim
def I0{h:jo}{x y:K_ 0}(p:γy x)(q:γy y):x=y:=by let(o,O,_,n,D):=p;let(z,H,_,N,d):=q;obtain rfl:o=z:=wu<|O.symm.trans H;rw[D]at d;injection d
mutual
theorem HR.one{h:jo}:∀{p q:PV}{v:gV},HR h p v->HR h q v->p=q
 |.int i,q,v,r,r'=>by
  let(t,rfl):=r;cases q with
  |int j=>let⟨t',e⟩:=r';injection e with e;rw[e]
  |str j=>let⟨t',e⟩:=r';cases e
  |tup j=>let⟨_,_,e,_⟩:=r';cases e
  |_=>exact r'.elim
 |.str i,q,v,r,r'=>by
  let(t,rfl):=r;cases q with
  |int j=>let⟨t',e⟩:=r';cases e
  |str j=>let⟨t',e⟩:=r';injection e with e;rw[e]
  |tup j=>let⟨_,_,e,_⟩:=r';cases e
  |_=>exact r'.elim
 |.tup ps,q,v,r,r'=>by
  let(a,its,rfl,p,rs):=r;cases q with
  |int j=>let⟨t',e⟩:=r';cases e
  |str j=>let⟨t',e⟩:=r';cases e
  |tup qs=>
   let(b,bf,e,p',si):=r';cases e
   have:its=bf:=by simpa using βo (I0 p p')
   subst this;rw[HRs.one rs si]
  |_=>exact r'.elim
 |.non,_,_,r,_=>r.elim
 |.bl _,_,_,r,_=>r.elim
 |.ref _,_,_,r,_=>r.elim
 |.ty _,_,_,r,_=>r.elim
 |.fl _,_,_,r,_=>r.elim
theorem HRs.one{h:jo}:∀{ps qs:E_ 0}{vs:YX 0},βL vs->HRs h qs vs->ps=qs
 |[],[],[],_,_=>rfl
 |p::ps,q::qs,v::vs,r,r'=>by rw[HR.one r.1 r'.1,HRs.one r.2 r'.2]
 |[],_::_,[],_,r=>r.elim
 |[],_,_::_,r,_=>r.elim
 |_::_,_,[],r,_=>r.elim
 |_::_,[],_::_,_,r=>r.elim
end
def F6{h:jo}{d:h_}{es ep}{x:K_ 0}(p:γy x)(O:h.get? d=a8 o)(D:o.data=.dict es ep)(s:VJ d h h'):IsTup h' a x:=by
 let(q,H,c,n,t):=p;let e:a≠d:=by
  rintro rfl;obtain rfl:q=o:=wu<|H.symm.trans O;rw[D]at t
  exists t
 show(q,(s.2 a e).trans H,c,n,t)
mutual
theorem HR.keep{h h':jo}(k:∀a x,γy x->IsTup h' a x):∀{p:PV}{v:gV},HR h p v->HR h' p v
 |.int i,v,r=>r
 |.str i,v,r=>r
 |.tup ps,v,⟨a,its,e,p,rs⟩=>⟨a,its,e,q7 p,HRs.keep k rs⟩
 |.non,_,r=>r.elim
 |.bl _,_,r=>r.elim
 |.ref _,_,r=>r.elim
 |.ty _,_,r=>r.elim
 |.fl _,_,r=>r.elim
theorem HRs.keep{h h':jo}(k:∀a x,γy x->IsTup h' a x):∀{ps:E_ 0}{vs:YX 0},βL vs->HRs h' ps vs
 |[],[],_=>trivial
 |_::_,_::_,r=>⟨HR.keep k r.1,HRs.keep k r.2⟩
 |[],_::_,r=>r.elim
 |_::_,[],r=>r.elim
end
def Jw:∀(n:Nat){A:i_}{E:b9 0}{s:g_}{p:PV}{v:gV}{Q:c9 Int},p.ky n=true->A.units+n<cLine->XX p v->Q (hsh w p) { s with toks:=s.toks+drw p}->
  l_ (pyHash v) Q E s:=by
 intro n
 induction n with
 |zero=>
  intro A E s p v Q k U r h;cases p with
  |int i=>let⟨t,rfl⟩:=r;show εq 0
  |str i=>let⟨t,rfl⟩:=r;show εr 0
  |_=>exists k
 |succ n I=>
  intro A E s p v Q k U r h;cases p with
  |int i=>let⟨t,rfl⟩:=r;show εq 0
  |str i=>let⟨t,rfl⟩:=r;show εr 0
  |tup P=>
   let(a,Y,rfl,(o,O,c,m,d),W):=r;let T:s.TypeIs (.ref a) "tuple" := ZX O c;show eg (wpAny_cRoomFor_or (.inr<|show A.units<cLine by omega) (eg<|Xf T F.slot_tuple_hash.lookup ?_));show eg (Xf T F.slot_tuple_hash.lookup<|show n7 _ Q E s from ?_)
   show eg (wpAny_callSpecialIfBoundUnlessNone?_slot T F.slot_tuple_hash<|yc F.slot_tuple_hash T F.entry_tuple_hash (show n7 (Xq (.ref a) >>= _) _ _ s from ?_) (F.args_tuple_hash_1 _))
   show eg<|wpAny_tupleItemsOf O d<|eg ?_;rw[<-Array.forIn_toList];show γz (λe (b:Array Int) S=>∃left,βM left e/\(∀q∈left,q.ky n=true)/\b.toList++B2 w left=B2 w P/\S.heap=s.heap/\S={ s with toks:=S.toks}/\S.toks+Dn left=s.toks+Dn P) _ ?turn ?stop _ _ (I1f P W (we.mp k) rfl rfl rfl rfl)
   case turn=>
    rintro x e b S ⟨left,l,K,B,u,j,g⟩;cases left with
    |nil=>exact l.elim
    |cons q left=>
     let X:HR S.heap q x:=by rw[u];show l.1
     show eg (I (K q vo) (show A.units+1+n<cLine by omega) X (vh ?_));show I1f left l.2 (λz Z=>K z<|vr _ Z) ?_ u ?_ ?_
     ·rw[<-B];simp[B2]
     ·rw[j]
     ·rw[<-g]
      change S.toks+drw q+Dn left=S.toks+(drw q+Dn left)
      omega
   case stop=>
    show λb S z7=>E1f z7 λleft l K B u j g=>?_;cases left with
    |cons q left=>exact l.elim
    |nil=>
     let y:b.toList=B2 w P:=by rw[<-B];simp[B2]
     let f:S.toks=s.toks+Dn P:=g
     change n7 (retInt _) _ _ _
     rw[y,j];show wpAny_ret_mkInt ?_
     change n7 (if(decide (-(2:Int) ^ 63<=WE (B2 w P))&&εl 0)=true then _ else _) Q E _
     let H:Q (reduceHash _) { s with toks:=s.toks+(Dn P+1)}:=h;unfold reduceHash at H;rw[f];by_cases R:(decide (-(2:Int) ^ 63<=WE (B2 w P))&&decide (WE (B2 w P)<2 ^ 63))=true
     ·rw[if_pos R]at H⊢;show vh (by simpa[Nat.add_assoc] using H)
     ·rw[if_neg R]at H⊢;show eg (W5<|vh<|by simpa[Nat.add_assoc] using H)
  |_=>exists k
def F7:∀(n:Nat){A:i_}{s:g_}{p q:PV}{v u:gV},p.ky n=true->q.ky n=true->A.units+n<cLine->XX p v->XX q u->RcAt A s v u (decide (p=q)):=by
 intro n
 induction n with
 |zero=>
  intro A s p q v u g Q C r R;cases p with
  |int i=>
   let(t,rfl):=r;cases q with
   |int j=>let⟨T,rfl⟩:=R;have:=RcAt.int_int (A:=A) (s:=s) i t j T;rwa[show decide (PV.int i=PV.int j)=(i == j) by simp[VX]]
   |str j=>let⟨T,rfl⟩:=R;show RcAt.int_str i t j T
   |_=>exists Q
  |str i=>
   let(t,rfl):=r;cases q with
   |int j=>let⟨T,rfl⟩:=R;show RcAt.str_int i t j T
   |str j=>let⟨T,rfl⟩:=R;have:=RcAt.str_str (A:=A) (s:=s) i t j T;rwa[show decide (PV.str i=PV.str j)=(i == j) by simp[VX]]
   |_=>exists Q
  |_=>exists g
 |succ n B=>
  intro A s p q v u g Q C r R;cases p with
  |int i=>
   let(t,rfl):=r;cases q with
   |int j=>let⟨T,rfl⟩:=R;have:=RcAt.int_int (A:=A) (s:=s) i t j T;rwa[show decide (PV.int i=PV.int j)=(i == j) by simp[VX]]
   |str j=>let⟨T,rfl⟩:=R;show RcAt.int_str i t j T
   |tup js=>let⟨b,S,rfl,c,_⟩:=R;show RcAt.int_tuple i t c ⋯
   |_=>exists Q
  |str i=>
   let(t,rfl):=r;cases q with
   |int j=>let⟨T,rfl⟩:=R;show RcAt.str_int i t j T
   |str j=>let⟨T,rfl⟩:=R;have:=RcAt.str_str (A:=A) (s:=s) i t j T;rwa[show decide (PV.str i=PV.str j)=(i == j) by simp[VX]]
   |tup js=>let⟨b,S,rfl,c,_⟩:=R;show RcAt.str_tuple i t c ⋯
   |_=>exists Q
  |tup P=>
   let(a,S,(z0),Z,V):=r;subst z0;cases q with
   |int j=>let⟨T,rfl⟩:=R;show RcAt.tuple_int j T Z ⋯
   |str j=>let⟨T,rfl⟩:=R;show RcAt.tuple_str j T Z ⋯
   |tup w=>
    let(b,I,rfl,tb,k):=R;let l1:=V.l;let l2:=k.l;let K:=RcAt.tuples (A:=A) (e:=λj=>match P[j]?,w[j]? with|some x,a8 y=>decide (x=y)|_,_=>false) Z tb ⋯ (λj J F=>by
     let o:j<P.l:=by simp at J;omega
     let m:j<w.l:=by simp at F;omega
     let G:P[j]?=a8 P[j]:=by simp[o]
     let W:w[j]?=a8 w[j]:=by simp[m]
     let(xu,(X),h):=V.at G;let(yu,(Y),H):=k.at W;let E:S.toArray[j]=xu:=by simpa using(vg.mp X).2
     let N:I.toArray[j]=yu:=by simpa using(vg.mp Y).2
     rw[E,N];simp only[G,W];show rK (B ((we.mp g) _<|VL o) ((we.mp Q) _<|VL m) (show A.units+1+n<cLine by omega) h H) (λM=>?_) (λf t e=>?_)
     ·subst M;rw[HR.one h H];show decide_eq_true rfl
     ·subst e;generalize P[j]=z at h;cases z with
      |int i=>let⟨_,e⟩:=h;exists e
      |str i=>let⟨_,e⟩:=h;exists e
      |tup i=>let⟨_,_,e,_⟩:=h;exists e
      |_=>exact h.elim)
    let sz:((xf<|min S.toArray.size I.toArray.size).all (λj=>match P[j]?,w[j]? with|some x,a8 y=>decide (x=y)|_,_=>false)&&S.toArray.size == I.toArray.size)=decide (PV.tup P=PV.tup w):=by
     let U:S.toArray.size=P.l:=by simp;omega
     let O:I.toArray.size=w.l:=by simp;omega
     rw[U,O,XF];simp only[wy,we,Wi,beq_iff_eq,decide_eq_true_eq,PV.tup.injEq];constructor
     ·rintro⟨l,L⟩;apply Xw L;intro i D d;have:=l i ⋯;simpa[D,d] using this
     ·rintro rfl;show(λx hx=>?_,rfl);have:x<P.l:=⋯;simp[this]
    rw[<-sz];show K
   |_=>exists Q
  |_=>exists g
variable{p:PV}
def HR.noflt{h:jo}(r:HR h p v):∀f t,v≠.float f t:=λf t e=>by
 subst e;cases p with
 |int i=>let⟨_,e⟩:=r;exists e
 |str i=>let⟨_,e⟩:=r;exists e
 |tup i=>let⟨_,_,e,_⟩:=r;exists e
 |_=>exact r.elim
def F8{q:PV}(h:p.ky n=true)(H:q.ky n=true)(U:A.units+n<cLine)(r:XX p v)(r':XX q u):βK v u (decide (p=q)):=rK (F7 n h H U r r') (λe=>by subst e;rw[HR.one r r'];show decide_eq_true rfl) r.noflt
def Ia:∀(n m){A:i_}{E:b9 0}{s:g_}{p:PV}{v:gV}{Q:c9 Bool},p.ky n=true->n<=m->XX p v->Q true s->l_ (eqIsQuiet m v) Q E s:=by
 intro n
 induction n with
 |zero=>
  intro m A E s p v Q k M r h;cases p with
  |int i=>let⟨t,rfl⟩:=r;rw[αm rfl];show vh h
  |str i=>let⟨t,rfl⟩:=r;rw[αm rfl];show vh h
  |_=>exists k
 |succ n I=>
  intro m A E s p v Q k M r h;cases p with
  |int i=>let⟨t,rfl⟩:=r;rw[αm rfl];show vh h
  |str i=>let⟨t,rfl⟩:=r;rw[αm rfl];show vh h
  |tup P=>
   let(a,y,rfl,(o,O,c,u,d),x):=r;let T:s.TypeIs (.ref a) "tuple" := ZX O c;obtain⟨m,rfl⟩:∃j,m=j+1:=⟨m-1,⋯⟩;unfold eqIsQuiet;show eg (Xf T F.slot_tuple_eq.lookup<|show n7 (isInstance _ _ >>= _) _ _ s from ?_)
   show eg<|Vs T isSubtype_tuple_tuple ?_;simp only[Bool.not_true];show eg (wpAny_seqItems O d<|eg<|show X6 s from ?_);rw[<-Array.forIn_toList]
   show γz (λe r S=>r.1=a9/\S=s/\∃left,HRs _ left e/\∀q∈left,q.ky n=true) _ ?_ ?_ _ _ ⟨rfl,rfl,P,x,(we.mp k)⟩
   ·rintro v e r S ⟨R,rfl,left,l,K⟩;cases left with
    |nil=>exact l.elim
    |cons q left=>show eg<|I m (K q vo) ⋯ l.1 ?_;simp;show vh ⟨rfl,rfl,left,l.2,λz Z=>K z (εs Z)⟩
   ·rintro⟨g,f⟩ S ⟨R,rfl,_⟩;simp only at R;subst R;show vh h
  |_=>exists k
abbrev Do(prog:j3)(w:j2):HeapKind prog w PV where
 is:=λh p a=>p.ky 6=true/\HR h p (.ref a)
 hash:=hsh w
 draws:=drw
 room:=λA=>A.units+6<cLine
 inj:=λx y=>HR.one x.2 y.2
 keeps:=λx ho hd hs=>⟨x.1,HR.keep (λa it p=>F6 p ho hd hs) x.2⟩
 pyHash:=λhu x h=>Jw 6 x.1 hu x.2 h
 eqBool:=λhu x y h=>F8 x.1 y.1 hu x.2 y.2 _ _ _ _ h
 quiet:=λx h=>Ia 6 8 x.1 ⋯ x.2 h
abbrev dDO(w:j2)(a:h_)(ks:k_ (PV×h_×V)):HO:=.ext λh=>ks.l<=wa/\(a == zx)=false/\∃xs:k_ (PV×h_×gV),
 Paired (λ(p:PV×h_×V)(q:PV×h_×gV)=>p.1=q.1/\p.2.1=q.2.1/\RelV p.2.2 q.2.2) ks xs/\
 ∃o es ep,YC 0=a8 o/\o.ExactDict/\o.data=.dict es ep/\es.toList=xs.map (λx=>(⟨hsh w x.1,.ref x.2.1,x.2.2⟩:Xc))/\(xs.map (·.1)).Nodup
abbrev Gh(kd:Nat)(v d:h_):HO:=.ext λh=>match kd with
 |0=>h.IsItemsView v d
 |1=>h.IsValuesView v d
 |_=>∃o,h.get? v=a8 o/\o.cls=.type "dict_keys" /\ o.data=.fields #[.ref d]
inductive MO where
 |lst (xs:k_ PV)
 |dK (kvs:k_ (Key×PV))
 |ins (C:Str) (fs:k_ (Str×PV))
 |dD (kvs:k_ (PV×PV))
 |vw (kd d:Nat)
 |fz (o:MO)
@[reducible]def PH:=k_ MO
@[reducible]def Ev:=k_<|l7 PV
structure PX where
 cls:Str
 fs:k_ (Str×PV)
inductive Rs(α:Type) where
 |ok (a:α) (h:PH)
 |exc (x:PX) (h:PH)
 |bad
inductive Fl where
 |nx (δ:Ev) (h:PH)
 |rt (p:PV) (h:PH)
 |bk (δ:Ev) (h:PH)
 |ct (δ:Ev) (h:PH)
 |exc (x:PX) (h:PH)
 |bad
@[reducible]def Me:=Ev->PH->Yv 0
@[reducible]def Ms:=Ev->PH->Fl
@[reducible]def Fn:=E_ 0->PH->Yv 0
abbrev Rs.bind{α β:Type}(r:Rs α)(f:α->PH->Rs β):Rs β:=match r with
 |.ok a h=>f a h
 |.exc x h=>.exc x h
 |.bad=>.bad
@[simp]theorem Rs.bind_ok{α β:Type}(a:α)(h:PH)(f:α->PH->Rs β):(Rs.ok a h).bind f=f a h:=rfl
@[simp]theorem Rs.bind_exc{α β:Type}(x:PX)(h:PH)(f:α->PH->Rs β):(Rs.exc x h:Rs α).bind f=.exc x h:=rfl
@[simp]theorem Rs.bind_bad{α β:Type}(f:α->PH->Rs β):(Rs.bad:Rs α).bind f=.bad:=rfl
structure MC where
 K:vj
 cl:Str->l7 h_
 bs:k_ Str
 ex:k_ h_->Hp->PX->Prop
 w:j2
abbrev SqF(K:vj)(H:Hp)(a:h_)(xs:k_ V):Prop:=
 (∃o,H a=a8 (.frz o<|.lst xs))\/
  ∃(o:Obj)(its:K_ 0)(n:Nat),δc 0=a8 o/\o.cls=.type "list" /\ o.dict=a9/\o.data=.seq its n/\its.size<=wa/\ZK its.toList
def SqF.sq{xs:k_ V}(h:SqF K H a xs):Yu a xs:=by
 rcases h with⟨o,h⟩|h
 ·show .inl (.inr ⟨o,h⟩)
 ·show .inr h
abbrev Kp(H H':Hp):Prop:=oG H H'/\∀a o u,H a=a8 (.frz o u)->H' a=a8 (.frz o u)
def Kp.refl(H:Hp):XT H:=⟨oG.refl H,λ_ _ _ h=>h⟩
def Kp.trans(a:XT H1)(b:Kp H1 H2):XT H2:=⟨a.1.trans b.1,λc o u h=>b.2 c o u<|a.2 c o u h⟩
def Kp.same(s:wX H H'):XT H':=⟨oG.same s,λ_ _ _ h=>s _ _ h⟩
def Kp.new{o:HO}(h:H a=a9):XT (Zt o):=Kp.same<|wX.upd h
def Kp.upd{p:h_}{o:HO}(h:yT (H p)):XT (x_ p o):=⟨oG.upd h,λa b u q=>by
 let n:a≠p:=by rintro rfl;rw[q]at h;show h
 rw[aG n];show q⟩
def Kp.lst{H:Hp}{p:h_}{o:HO}{xs:k_ V}(h:H p=a8 (.lst xs)):XT (_L.upd H p o):=Kp.upd (by rw[h];trivial)
def Kp.dK{H:Hp}{p:h_}{o:HO}{xs:k_ (Key×V)}(h:H p=a8 (.dK xs)):XT (_L.upd H p o):=Kp.upd (by rw[h];trivial)
def Kp.sq{xs:k_ V}(t:XT H')(h:Yk a xs):SqT K H' a xs:=t.1.sq h
def Kp.sf{xs:k_ V}(t:XT H')(h:SqF K H a xs):SqF K H' a xs:=by
 rcases h with⟨o,h⟩|h
 ·show .inl ⟨o,t.2 _ _ _ h⟩
 ·show .inr h
section
variable(C:MC)(φ:k_ h_)(H:Hp)
mutual
def RV:PV->V->Prop
 |.non,v=>v=.non
 |.bl b,v=>v=.bl b
 |.int i,v=>v=.int i
 |.str x,v=>v=.str x
 |.ty n,v=>v=.ty n
 |.tup ps,v=>∃a vs,v=.ref a/\SqT C.K H a vs/\RVs ps vs
 |.ref n,v=>∃a,v=.ref a/\φ[n]?=a8 a
 |.fl ps,v=>∃a vs,v=.ref a/\SqF C.K H a vs/\RVs ps vs
def RVs:E_ 0->k_ V->Prop
 |[],[]=>True
 |p::ps,v::vs=>RV p v/\RVs ps vs
 |[],_::_=>False
 |_::_,[]=>False
end
abbrev RKv{κ:Type}:k_ (κ×PV)->k_ (κ×V)->Prop:=Paired λp q=>p.1=q.1/\ia p.2 q.2
abbrev RKd:k_ (PV×PV)->k_ (PV×h_×V)->Prop:=Paired λp q=>p.1=q.1/\p.1.ky 6=true/\ia p.1 (.ref q.2.1)/\ia p.2 q.2.2
abbrev RO(a:h_):MO->Prop
 |.lst ps=>∃vs,H a=a8 (.lst vs)/\p5 ps vs
 |.dK kvs=>∃ks,H a=a8 (.dK ks)/\XU kvs ks
 |.ins n fs=>∃c dx ks,C.cl n=a8 c/\H a=a8 (.ins c dx ks)/\XU fs ks
 |.dD kvs=>∃ks,H a=a8 (dDO C.w a ks)/\ζE 0
 |.vw kd d=>∃b,φ[d]?=a8 b/\H a=a8 (Gh kd a b)
 |.fz (.dK kvs)=>∃ob ks,H a=a8 (.frz ob<|.dK ks)/\XU kvs ks
 |.fz (.dD kvs)=>∃ob ks,H a=a8 (.frz ob<|dDO C.w a ks)/\ζE 0
 |.fz _=>False
structure RH(h:PH):Prop where
 len:φ.l=h.l
 nd:φ.Nodup
 at':∀(n:Nat)(a:h_)(o:MO),φ[n]?=some a->h[n]?=some o->RO C φ H a o
abbrev RE(δ:Ev)(σ:St):Prop:=δ.l=σ.l/\∀(i:Nat)(p:PV),δ[i]?=a8 (a8 p)->∃v,σ[i]?=a8 (a8 v)/\YW v
end
def dG{α:Type}{l l':k_ α}(p:l<+:l'){a:α}(h:l[n]?=a8 a):l'[n]?=a8 a:=by let(t,rfl):=p;have:=(vg.mp h).1;rw[ya this];show h
abbrev Kq(H H':Hp):Prop:=oG H H'/\∀a o xs,H a=a8 (.frz o<|.lst xs)->H' a=a8 (.frz o<|.lst xs)
def Kp.q(t:XT H'):Kq H H':=⟨t.1,λa o xs h=>t.2 a o _ h⟩
def Kq.sq{xs:k_ V}(t:Kq H H')(h:Yk a xs):SqT K H' a xs:=t.1.sq h
def Kq.sf{xs:k_ V}(t:Kq H H')(h:SqF K H a xs):SqF K H' a xs:=by
 rcases h with⟨o,h⟩|h
 ·show .inl ⟨o,t.2 _ _ _ h⟩
 ·show .inr h
mutual
theorem RV.monoQ(p:φ<+:φ')(t:Kq H H'):∀{x:PV}{v:V},ia x v->δM x v
 |.non,_,h=>h
 |.bl _,_,h=>h
 |.int _,_,h=>h
 |.str _,_,h=>h
 |.ty _,_,h=>h
 |.tup _,_,⟨a,vs,e,q,r⟩=>⟨a,vs,e,t.sq q,δN t r⟩
 |.ref _,_,⟨a,e,q⟩=>⟨a,e,dG p q⟩
 |.fl _,_,⟨a,vs,e,q,r⟩=>⟨a,vs,e,t.sf q,δN t r⟩
theorem RVs.monoQ(p:φ<+:φ')(t:Kq H H'):∀{xs:E_ 0}{vs:k_ V},Yx 0->εY xs vs
 |[],[],_=>trivial
 |_::_,_::_,⟨h,r⟩=>⟨RV.monoQ p t h,δN t r⟩
 |[],_::_,h=>h.elim
 |_::_,[],h=>h.elim
end
variable{C:MC}{φ φ':k_ h_}
def RV.mono(p:φ<+:φ')(t:XT H'){x:PV}{v:V}(h:ia x v):δM x v:=RV.monoQ p t.q h
variable{xs:E_ 0}
def RVs.mono(p:φ<+:φ')(t:XT H'){vs:k_ V}(h:Yx 0):εY xs vs:=δN t.q h
def RVs.length:∀{xs:E_ 0}{vs:k_ V},Yx 0->xs.l=vs.l
 |[],[],_=>rfl
 |_::_,_::_,⟨_,r⟩=>by simp[RVs.length r]
 |[],_::_,h=>h.elim
 |_::_,[],h=>h.elim
def RVs.get:∀{xs:E_ 0}{vs:k_ V}{i:Nat}{v:V},Yx 0->vs[i]?=a8 v->∃x,xs[i]?=a8 x/\ia x v
 |[],[],_,_,_,e=>by simp at e
 |x::_,w::_,0,v,⟨h,_⟩,e=>by
  have:w=v:=by simpa using e
  subst this;show I1b x rfl h
 |_::xs,_::vs,i+1,v,⟨_,r⟩,e=>by
  let(x,(z),y):=RVs.get r<|d0 e;show I1b x (d0 z) y
 |[],_::_,_,_,h,_=>h.elim
 |_::_,[],_,_,h,_=>h.elim
def RVs.at:∀{xs:E_ 0}{vs:k_ V}{i:Nat}{x:PV},Yx 0->xs[i]?=a8 x->∃v,vs[i]?=a8 v/\ia x v
 |[],[],_,_,_,e=>by simp at e
 |x::_,w::_,0,X,⟨h,_⟩,e=>by
  have:x=X:=by simpa using e
  subst this;show I1b w rfl h
 |_::xs,_::vs,i+1,x,⟨_,r⟩,e=>by
  let(v,(z),y):=RVs.at r<|d0 e;show εC (d0 z) y
 |[],_::_,_,_,h,_=>h.elim
 |_::_,[],_,_,h,_=>h.elim
def RVs.append:∀{xs ys:E_ 0}{vs us:k_ V},Yx 0->p5 ys us->p5 (xs++ys) (vs++us)
 |[],_,[],_,_,h=>h
 |_::_,_,_::_,_,⟨h,r⟩,z=>⟨h,RVs.append r z⟩
 |[],_,_::_,_,h,_=>h.elim
 |_::_,_,[],_,h,_=>h.elim
def RVs.snoc{vs:k_ V}{x:PV}{v:V}(r:Yx 0)(h:ia x v):p5 (xs++[x]) (vs++[v]):=r.append ⟨h,trivial⟩
def RVs.drop:∀{xs:E_ 0}{vs:k_ V}(n),Yx 0->p5 (xs.drop n) (vs.drop n)
 |_,_,0,h=>h
 |[],[],_+1,_=>trivial
 |_::_,_::_,n+1,⟨_,r⟩=>RVs.drop n r
 |[],_::_,_+1,h=>h.elim
 |_::_,[],_+1,h=>h.elim
def RVs.take:∀{xs:E_ 0}{vs:k_ V}(n),Yx 0->p5 (xs.take n) (vs.take n)
 |[],[],0,_=>trivial
 |_::_,_::_,0,_=>trivial
 |[],[],_+1,_=>trivial
 |_::_,_::_,n+1,⟨h,r⟩=>⟨h,RVs.take n r⟩
 |[],_::_,_,h=>h.elim
 |_::_,[],_,h=>h.elim
def RVs.set{x:PV}{v:V}(h:ia x v):∀{xs:E_ 0}{vs:k_ V}(n),Yx 0->p5 (xs.set n x) (vs.set n v)
 |[],[],_,_=>trivial
 |_::_,_::_,0,⟨_,r⟩=>⟨h,r⟩
 |_::_,_::_,n+1,⟨q,r⟩=>⟨q,RVs.set h n r⟩
 |[],_::_,_,h=>h.elim
 |_::_,[],_,h=>h.elim
def RVs.reverse:∀{xs:E_ 0}{vs:k_ V},Yx 0->p5 xs.reverse vs.reverse
 |[],[],_=>trivial
 |_::_,_::_,⟨h,r⟩=>by simp;show(RVs.reverse r).append ⟨h,trivial⟩
 |[],_::_,h=>h.elim
 |_::_,[],h=>h.elim
def RKv.monoQ{κ:Type}(p:φ<+:φ')(t:Kq H H'){x:k_ (κ×PV)}{v:k_ (κ×V)}(h:XU x v):RKv C φ' H' x v:=ζm 0 λ_ _ q=>⟨q.1,q.2.monoQ p t⟩
def RKd.monoQ(p:φ<+:φ')(t:Kq H H'){x:k_ (PV×PV)}{v:k_ (PV×h_×V)}(h:YF x v):RKd C φ' H' x v:=ζm 0 λ_ _ q=>I0d q.1 q.2.1 (q.2.2.1.monoQ p t)<|q.2.2.2.monoQ p t
def RKv.mono{κ:Type}(p:φ<+:φ')(t:XT H'){x:k_ (κ×PV)}{v:k_ (κ×V)}(h:XU x v):RKv C φ' H' x v:=ζm 0 λ_ _ q=>⟨q.1,q.2.mono p t⟩
def RKd.mono(p:φ<+:φ')(t:XT H'){x:k_ (PV×PV)}{v:k_ (PV×h_×V)}(h:YF x v):RKd C φ' H' x v:=ζm 0 λ_ _ q=>I0d q.1 q.2.1 (q.2.2.1.mono p t)<|q.2.2.2.mono p t
variable{δ:Ev}
def RE.mono(p:φ<+:φ')(t:XT H'){σ:St}(h:F_ 0):β0 σ:=⟨h.1,λi x e=>let ⟨v,q,r⟩:=h.2 i x e;(εC q<|r.mono p t)⟩
def RE.set{σ:St}{x:PV}{v:V}(h:F_ 0)(r:ia x v)(i):γA (βN<|a8 x) (ε1<|a8 v):=by
 show(by rw[wo,wo];show h.1,λj p e=>?_);by_cases J:i=j
 ·subst J;by_cases l:i<δ.l
  ·rw[yi l]at e;cases e
   show εC (by rw[yi (by rw[<-h.1];show l)]) r
  ·rw[VW (by rw[wo];omega)]at e
   exists e
 ·rw[ym J]at e;rw[ym J];show h.2 j p e
def RO.stayQ{o:MO}(p:φ<+:φ')(t:Kq H H')(e:H' a=H a)(h:γb o):RO C φ' H' a o:=by
 cases o with
 |lst P=>let⟨s,q,r⟩:=h;show I1b s (e.trans q)<|r.monoQ p t
 |dK P=>let⟨s,q,r⟩:=h;show I1b s (e.trans q)<|r.monoQ p t
 |ins n f=>let⟨c,x,k,z,q,r⟩:=h;show I3c c x k z (e.trans q)<|r.monoQ p t
 |dD v=>let⟨k,q,r⟩:=h;show I1b k (e.trans q)<|r.monoQ p t
 |vw K d=>let⟨b,B,q⟩:=h;show I1b b (dG p B)<|e.trans q
 |fz o=>
  cases o with
  |dK v=>let⟨O,k,q,r⟩:=h;show I2b O k (e.trans q)<|r.monoQ p t
  |dD v=>let⟨O,k,q,r⟩:=h;show I2b O k (e.trans q)<|r.monoQ p t
  |_=>exact h.elim
def RO.stay{o:MO}(p:φ<+:φ')(t:XT H')(e:H' a=H a)(h:γb o):RO C φ' H' a o:=h.stayQ p t.q e
def RO.some{o:MO}(h:γb o):∃u,H a=a8 u:=by
 cases o with
 |lst p=>let⟨v,q,r⟩:=h;show(_,q)
 |dK p=>let⟨v,q,r⟩:=h;show(_,q)
 |ins n f=>let⟨c,x,s,z,q,r⟩:=h;show(_,q)
 |dD k=>let⟨s,q,r⟩:=h;show(_,q)
 |vw K d=>let⟨b,B,q⟩:=h;show(_,q)
 |fz o=>
  cases o with
  |dK k=>let⟨O,s,q,r⟩:=h;show(_,q)
  |dD k=>let⟨O,s,q,r⟩:=h;show(_,q)
  |_=>exact h.elim
variable{h:PH}
def RH.get(r:p7 h){o:MO}(e:h[n]?=a8 o):∃a,φ[n]?=a8 a/\γb o:=by
 have:n<φ.l:=by rw[r.len];show(Y7 0).1
 show I1b (φ[n]) (by simp[this]) (r.at' n _ o (by simp[this]) e)
def RH.tracked(r:p7 h)(e:φ[n]?=a8 a):∃u,H a=a8 u:=by
 have:n<h.l:=by rw[<-r.len];show(Y7 0).1
 show(r.at' n a h[n] e<|by simp).some
def RH.aside(r:p7 h){o:HO}(e:H a=a9):YG φ (Zt o) h:=⟨r.len,r.nd,λn b O z y=>by let q:=r.at' n b O z y;let(u,U):=q.some;show q.stay (vt) (Kp.new e)<|aG<|bO U e⟩
def RH.new(r:p7 h){u:HO}{o:MO}(e:H a=a9)(q:RO C (φ++[a]) (Zt u) a o):YG (φ++[a]) (Zt u) (h++[o]):=by
 show(by simp[r.len],?_,λn b O w v=>?_)
 ·rw[zq];show(r.nd,by simp,λx X y Y z=>?_);rw[vx]at Y;subst Y z;let(n,N):=List.mem_iff_getElem?.mp X;let(s,U):=r.tracked N;rw[e]at U;exists U
 ·by_cases N:n<φ.l
  ·rw[ya N]at w;rw[ya (by rw[<-r.len];show N)]at v;let Q:=r.at' n b O w v;let(s,U):=Q.some;show Q.stay (ζn _) (Kp.new e)<|aG<|bO U e
  ·let t:n=φ.l:=by have:=(vg.mp w).1;simp at this;omega
   subst t;rw[zi<|vk _,Nat.sub_self]at w;rw[r.len,zi<|vk _,Nat.sub_self]at v
   exists w
   exists v
   show q
def RH.write(r:p7 h){u:HO}{o:MO}(e:φ[n]?=a8 a)(t:yT (H a))(q:RO C φ (Zt u) a o):YG φ (Zt u) (P_ o):=by
 show(by rw[wo];show r.len,r.nd,λm b O y x=>?_);by_cases M:n=m
 ·subst M;rw[e]at y;exists y;let l:n<h.l:=by rw[<-r.len];show(Y7 0).1
  rw[yi l]at x
  exists x
  show q
 ·rw[ym M]at x;let B:b≠a:=λz=>by subst z;show M ((List.getElem?_inj (Y7 0).1 r.nd).mp<|e.trans y.symm)
  show(r.at' m b O y x).stay vt (Kp.upd t) (aG B)
section
variable(C:MC)(φ:k_ h_)(H:Hp)
abbrev post(r:Yv 0)(Q:VK):Prop:=match r with
 |.ok p h=>∀φ' v H',φ<+:φ'->XT H'->N_ h->δM p v->Q v H'
 |.exc x h=>∀φ' H',φ<+:φ'->XT H'->N_ h->αZ x
 |.bad=>False
abbrev cB(r:X7 0)(Q:Bool->Hp->Prop):Prop:=match r with
 |.ok b h=>∀φ' H',φ<+:φ'->XT H'->N_ h->Q b H'
 |.exc x h=>∀φ' H',φ<+:φ'->XT H'->N_ h->αZ x
 |.bad=>False
abbrev postA(r:Rs (E_ 0))(Q:k_ V->Hp->Prop):Prop:=match r with
 |.ok ps h=>∀φ' vs H',φ<+:φ'->XT H'->N_ h->εY ps vs->Q vs H'
 |.exc x h=>∀φ' H',φ<+:φ'->XT H'->N_ h->αZ x
 |.bad=>False
abbrev bY(r:Fl)(D:Ends):Prop:=match r with
 |.nx δ h=>∀φ' σ H',φ<+:φ'->XT H'->N_ h->β0 σ->β4 H'
 |.rt p h=>∀φ' v H',φ<+:φ'->XT H'->N_ h->δM p v->D.rt v H'
 |.bk δ h=>∀φ' σ H',φ<+:φ'->XT H'->N_ h->β0 σ->D.bk σ H'
 |.ct δ h=>∀φ' σ H',φ<+:φ'->XT H'->N_ h->β0 σ->D.ct σ H'
 |.exc x h=>∀φ' H',φ<+:φ'->XT H'->N_ h->αZ x
 |.bad=>False
end
variable{φ1:k_ h_}
def post.weak{r:Yv 0}{Q:VK}(p:φ<+:φ1)(t:XT H1)(h:v_ r Q):ZG φ1 H1 r Q:=by
 cases r with
 |ok a z=>exact λy v x P T=>ζo (βz 0) (βA 0)
 |exc a z=>exact λy x P T=>h y x (βz 0) (βA 0)
 |bad=>exact h
def cB.weak{r:X7 0}{Q:Bool->Hp->Prop}(p:φ<+:φ1)(t:XT H1)(h:YM r Q):cB C φ1 H1 r Q:=by
 cases r with
 |ok a z=>exact λy x P T=>h y x (βz 0) (βA 0)
 |exc a z=>exact λy x P T=>h y x (βz 0) (βA 0)
 |bad=>exact h
variable{r:Rs (E_ 0)}
def postA.weak{Q:k_ V->Hp->Prop}(p:φ<+:φ1)(t:XT H1)(h:Yz r Q):postA C φ1 H1 r Q:=by
 cases r with
 |ok a z=>exact λy v x P T=>ζo (βz 0) (βA 0)
 |exc a z=>exact λy x P T=>h y x (βz 0) (βA 0)
 |bad=>exact h
def bY.weak{r:Fl}{D:Ends}(p:φ<+:φ1)(t:XT H1)(h:Y9 r D):bY C φ1 H1 r D:=by
 cases r with
 |nx a z=>exact λy v x P T=>ζo (βz 0) (βA 0)
 |rt a z=>exact λy v x P T=>ζo (βz 0) (βA 0)
 |bk a z=>exact λy v x P T=>ζo (βz 0) (βA 0)
 |ct a z=>exact λy v x P T=>ζo (βz 0) (βA 0)
 |exc a z=>exact λy x P T=>h y x (βz 0) (βA 0)
 |bad=>exact h
def post.imp{r:Yv 0}{Q Q':VK}(h:v_ r Q)(i:∀v y,Q v y->Q' v y):v_ r Q':=by
 cases r with
 |ok a z=>exact λx v y p t R V=>i v y (h x v y p t R V)
 |exc a z=>exact h
 |bad=>exact h
def post.bind{r:Yv 0}{f:PV->PH->Yv 0}{Q:VK}(h:v_ (γP 0) Q):v_ r λv y=>∃z p u,φ<+:z/\XT y/\YG z y u/\RV C z y p v/\ZG z y (f p u) Q:=by
 cases r with
 |ok a w=>exact λx v s p t R V=>I3e x a w p t R V (α0 h)
 |exc a w=>exact h
 |bad=>exact h
def post.bindB{r:Yv 0}{f:PV->PH->X7 0}{Q:Bool->Hp->Prop}(h:YM (γP 0) Q):v_ r λv w=>∃x p y,φ<+:x/\XT w/\YG x w y/\RV C x w p v/\cB C x w (f p y) Q:=by
 cases r with
 |ok a z=>exact λu v s p t R V=>I3e u a z p t R V (cB.weak p t h)
 |exc a z=>exact h
 |bad=>exact h
def cB.bind{r:X7 0}{f:Bool->PH->Yv 0}{Q:VK}(h:v_ (γP 0) Q):YM r λb w=>∃x y,φ<+:x/\XT w/\YG x w y/\ZG x w (f b y) Q:=by
 cases r with
 |ok a z=>exact λv u p t R=>I2d v z p t R (α0 h)
 |exc a z=>exact h
 |bad=>exact h
def cB.bindB{r:X7 0}{f:Bool->PH->X7 0}{Q:Bool->Hp->Prop}(h:YM (γP 0) Q):YM r λb w=>∃x y,φ<+:x/\XT w/\YG x w y/\cB C x w (f b y) Q:=by
 cases r with
 |ok a z=>exact λv u p t R=>I2d v z p t R (cB.weak p t h)
 |exc a z=>exact h
 |bad=>exact h
def postA.bind{f:E_ 0->PH->Yv 0}{Q:VK}(h:v_ (γP 0) Q):Yz r λS w=>∃x s y,φ<+:x/\XT w/\YG x w y/\βU x w s S/\ZG x w (f s y) Q:=by
 cases r with
 |ok a z=>exact λu v q p t R V=>I3e u a z p t R V (α0 h)
 |exc a z=>exact h
 |bad=>exact h
def postA.bindA{f:E_ 0->PH->Rs (E_ 0)}{Q:k_ V->Hp->Prop}(h:Yz (γP 0) Q):Yz r λS u=>∃w s y,φ<+:w/\XT u/\YG w u y/\βU w u s S/\postA C w u (f s y) Q:=by
 cases r with
 |ok a z=>exact λq v o p t R x=>I3e q a z p t R x (postA.weak p t h)
 |exc a z=>exact h
 |bad=>exact h
def post.bindA{r:Yv 0}{f:PV->PH->Rs (E_ 0)}{Q:k_ V->Hp->Prop}(h:Yz (γP 0) Q):v_ r λv u=>∃w p y,φ<+:w/\XT u/\YG w u y/\RV C w u p v/\postA C w u (f p y) Q:=by
 cases r with
 |ok a z=>exact λs v q p t R x=>I3e s a z p t R x (postA.weak p t h)
 |exc a z=>exact h
 |bad=>exact h
def post.val{v:V}{Q:VK}(q:v_ (.ok p h) Q)(r:p7 h)(R:YW v):Q v H:=q φ v H vt (δO 0) r R
structure Cxt(C:MC)(k:Nat)(X:Cx):Prop where
 K:X.K=C.K
 calm:X.calm=true
 room:eD k X.A
 bn:∀x∈C.bs,X.mg x=none
 w:X.w=C.w
def Cxt.hu{k:Nat}(c:A1 X):X.A.units+1<cLine:=RA c.room
def Cxt.hu64{k:Nat}(c:A1 X):X.A.units+64<cLine:=c.room.units
def Cxt.comp{k:Nat}(c:A1 X)(sc)(N)(a)(fp)(s)(H):A1 (FR N a fp s H):=⟨c.K,c.calm,c.room,c.bn,c.w⟩
section
variable(C:MC)
abbrev rd(m:Me):TE:=λσ H Q=>∃φ δ h,p7 h/\F_ 0/\v_ (Zk h) Q
abbrev rdB(m:Ev->PH->X7 0):TT:=λσ H Q=>∃φ δ h,p7 h/\F_ 0/\YM (Zk h) Q
abbrev rdA(m:Ev->PH->Rs (E_ 0)):TA:=λσ H Q=>∃φ δ h,p7 h/\F_ 0/\Yz (Zk h) Q
abbrev rdS(m:Ms):TS:=λD σ H=>∃φ δ h,p7 h/\F_ 0/\Y9 (Zk h) D
abbrev r2(g:PV->PV->PH->Yv 0):R2:=λx y H Q=>∃φ h p q,p7 h/\YW x/\ia q y/\v_ (g p q h) Q
abbrev r1(g:PV->PH->Yv 0):V->Hp->VK->Prop:=λx H Q=>∃φ h p,p7 h/\YW x/\v_ (g p h) Q
abbrev rL(g:E_ 0->PH->Yv 0):k_ V->Hp->VK->Prop:=λxs H Q=>∃φ h ps,p7 h/\p5 ps xs/\v_ (g ps h) Q
end
variable{C:MC}{k:Nat}{X:Cx}
abbrev SE(C:MC)(k:Nat)(X:Cx)(e:j_)(m:Me):Prop:=A1 X->V_ e (rd C m)
abbrev ST(C:MC)(k:Nat)(X:Cx)(e:j_)(m:Ev->PH->X7 0):Prop:=A1 X->PT X e (rdB C m)
abbrev SA(C:MC)(k:Nat)(X:Cx)(es:k_ j_)(m:Ev->PH->Rs (E_ 0)):Prop:=A1 X->ε5 (rdA C m)
abbrev SSt(C:MC)(k:Nat)(X:Cx)(st:ko)(m:Ms):Prop:=A1 X->PS X st (rdS C m)
abbrev SSs(C:MC)(k:Nat)(X:Cx)(st:k_ ko)(m:Ms):Prop:=A1 X->εu st (rdS C m)
abbrev OpS(C:MC)(k:Nat)(X:Cx)(f:gV->gV->Sem gV)(g:PV->PV->PH->Yv 0):Prop:=A1 X->O_ f (r2 C g)
abbrev UnS(C:MC)(k:Nat)(X:Cx)(f:gV->Sem gV)(g:PV->PH->Yv 0):Prop:=A1 X->UnR X f (r1 C g)
abbrev lL(C:MC)(k:Nat)(X:Cx)(f:gV)(g:E_ 0->PH->Yv 0):Prop:=A1 X->δA f (rL C g)
abbrev Cd:Ev->Nat->l7 PV
 |[],_=>a9
 |x::_,0=>x
 |_::r,n+1=>Cd r n
@[simp]theorem Bs(x:l7 PV)(r:Ev):Cd (x::r) 0=x:=rfl
@[simp]theorem Ib(x:l7 PV)(r:Ev)(n:Nat):Cd (x::r) (n+1)=Cd r n:=rfl
def zD:∀{δ:Ev}{i:Nat}{p:PV},Cd δ i=a8 p->δ[i]?=a8 (a8 p)
 |[],_,_,h=>by cases h
 |x::_,0,p,h=>by let H:x=a8 p:=h;simp[H]
 |_::r,n+1,p,h=>by rw[List.getElem?_cons_succ];show zD h
abbrev mV(i:Nat):Me:=λδ h=>match Cd δ i with
 |some p=>.ok p h
 |none=>.bad
abbrev mC(p:PV):Me:=λ_ h=>.ok p h
def RN(i)(z:wP (X.N[i]?=a8 x) zn)(V:wP (αk x) v6)(d:wP ((x == ("__debug__" : Str))=false) xL)(c:wP ((x == ("__classdict__" : Str))=false) xL):n_ (.Name x pos) (mV i):=λ_=>by
 show(yB z V d c).imp λu H Q h=>?_;let(t,w,h,(R),r,p):=h;unfold mV at p;cases e:Cd w i with
 |none=>rw[e]at p;show p.elim
 |some x=>rw[e]at p;let(v,(V),y):=r.2 i x<|zD e;show εC V<|p.val R y
def RP{i j pos}:n_ (.Constant (.int i) j pos) (mC<|.int i):=λ_=>IR.imp λy H Q z0=>E3c z0 λx z h r e p=>βB rfl
def RQ{j pos}:n_ (.Constant .none j pos) (mC .non):=λ_=>OP.imp λy H Q z0=>E3c z0 λx z h r e p=>βB rfl
def wH{i j pos}:n_ (.Constant (.str i) j pos) (mC<|.str i):=λ_=>OQ.imp λy H Q z0=>E3c z0 λx z h r e p=>βB rfl
def Jx{n:String}(V:Wj x=a8 (.type n))(hb:wP (x∈C.bs) xL)(g:wP (Zu x) zn)(N:wP (x≠"__name__" ) xL)(d:wP ((x == ("__debug__" : Str))=false) xL):n_ (.Name x pos) (mC<|.ty n):=λc=>(G4 (v:=.ty n) g (c.bn x hb) V rfl N d).imp λy H Q z0=>E3c z0 λw z h r e p=>βB rfl
abbrev aB(g:PV->PV->PH->Yv 0)(ma mb:Me):Me:=λδ h=>(ma δ h).bind λx h1=>(mb δ h1).bind λy h2=>g x y h2
variable{ma mb:Me}
def Gi{g:PV->PV->PH->Yv 0}{σ:St}{Q:VK}(h:rd C (aB g ma mb) σ H Q):tOp (r2 C g) (rd C ma) (rd C mb) σ H Q:=by let(f,s,h,(j),e,p):=h;show I3c f s h j e<|(αh 0).imp ?_;show λv d z9=>E3e z9 λw x q P T r V m=>?_;show I3c w s q r (e.mono P T)<|(post.bind m).imp ?_;show λu c z8=>εj 0 λt y o n i R z l=>?_;show I4d t o x y R (V.mono n i) z l
variable{op:CmpOp}
section
variable{a b:j_}{g:PV->PV->PH->Yv 0}
def RR{op:Operator}(o:M_ (Vr op) g)(A:n_ a ma)(hb:n_ b mb):n_ (.BinOp a op b pos) (aB g ma mb):=λc=>(Rm (o c) (A c)<|hb c).imp λz H Q h=>Gi h
def RS(o:M_ (za op) g)(A:n_ a ma)(hb:n_ b mb)(m:wP (α9 b=false) ww):n_ (.Compare a [op] [b] pos) (aB g ma mb):=λc=>(M5 (o c) (A c) (hb c) m).imp λz H Q h=>Gi h
abbrev mUn(g:PV->PH->Yv 0)(ma:Me):Me:=λδ h=>(ma δ h).bind g
def Ut{op:UnaryOp}{g:PV->PH->Yv 0}(o:UnS C k X (unaryOp op) g)(A:n_ a ma):n_ (.UnaryOp op a pos) (mUn g ma):=λc=>(Rn (o c)<|A c).imp λn H Q h=>by let(t,u,h,(w),E,p):=h;show I3c t u h w E<|(αh 0).imp ?_;show λv s z8=>εj 0 λz x y P T r R q=>?_;show I3c z y x r R q
end
abbrev aJ(h:PH)(n:Nat):l7 (E_ 0):=match h[n]? with
 |some (.lst xs)=>a8 xs
 |_=>a9
def bZ(R:p7 h)(e:Ym n=a8 xs):∃a v,φ[n]?=a8 a/\γc v/\p5 xs v:=by
 unfold aJ at e;cases q:h[n]? with
 |none=>rw[q]at e;exists e
 |some o=>
  rw[q]at e;let(a,A,O):=R.get q;cases o with
  |lst y=>exists e;let(v,Q,r):=O;show I2c a v A (SqL.of Q) r
  |_=>exists e
abbrev cD(h:PH)(n:Nat):l7 (E_ 0):=match h[n]? with
 |some (.lst xs)=>a8 xs
 |_=>a9
def gL(e:cD h n=a8 xs):h[n]?=a8 (.lst xs):=by
 unfold cD at e;cases q:h[n]? with
 |none=>rw[q]at e;cases e
 |some o=>
  rw[q]at e;cases o with
  |lst y=>cases e;rfl
  |_=>cases e
abbrev wI(x:PV)(h:PH):l7 (E_ 0):=match x with
 |.ref n=>Ym n
 |.fl xs=>a8 xs
 |_=>a9
def gM{x:PV}{v:V}(y:p7 h)(R:ia x v)(e:wI x h=a8 xs):∃a s,v=.ref a/\γc s/\p5 xs s:=by
 cases x with
 |ref n=>let⟨a,rfl,z⟩:=R;let(w,s,(A),S,r):=bZ y e;rw[z]at A;cases A;show I2c a s rfl S r
 |fl Y=>
  exists e
  let(a,s,(z0),S,r):=R;subst z0;show I2c a s rfl S.sq r
 |_=>exists e
abbrev Ol:E_ 0->Bool
 |[]=>true
 |_::_=>false
abbrev Jy:PV->PV->PH->Yv 0:=λx y h=>match x,y with
 |.int i,.int j=>.ok (.int<|i+j) h
 |.str i,.str j=>if i.l+j.l<=wa then .ok (.str<|i++j) h else .bad
 |.tup xs,.tup ys=>if Ol xs=false/\xs.l+ys.l<=wa then .ok (.tup<|xs++ys) h else .bad
 |.ref a,.ref b=>match cD h a,cD h b with
  |some xs,a8 ys=>if xs.l+ys.l<=wa then .ok (.ref h.l) (h++[.lst<|xs++ys]) else .bad
  |_,_=>.bad
 |_,_=>.bad
def post.ite{c:Prop}[Decidable c]{r:Yv 0}{Q:VK}(h:v_ (if c then r else .bad) Q):c/\v_ r Q:=by
 by_cases z:c
 ·rw[β6 0]at h;show(z,h)
 ·rw[γN 0]at h;show h.elim
def post.lnew{vs:k_ V}{Q:VK}(q:v_ (.ok (.ref h.l)<|h++[.lst xs]) Q)(R:p7 h)(r:Yx 0){p:h_}(P:H p=a9):Q (.ref p) (x_ p<|.lst vs):=q _ _ _ (ζn _) (Kp.new P) (R.new P<|I1b vs aL<|r.mono (ζn _)<|Kp.new P) ⟨p,rfl,by rw[<-R.len];simp⟩
def post.tnew{vs:k_ V}{Q:VK}(q:v_ (.ok (.tup xs) h) Q)(R:p7 h)(r:Yx 0){p:h_}(P:H p=a9):Q (.ref p) (x_ p<|.tup vs):=q φ _ _ vt (Kp.new P) (R.aside P)<|I2c p vs rfl (SqT.of aL)<|r.mono vt<|Kp.new P
def post.lset{v:V}{ws vs:k_ V}{Q:VK}(q:v_ (.ok p<|h.set n<|.lst xs) Q)(R:p7 h)(e:φ[n]?=a8 a)(l:H a=a8 (.lst ws))(r:Yx 0)(z:YW v):Q v (Zt<|.lst vs):=q φ v _ vt (Kp.lst l) (R.write e (by rw[l];trivial)<|I1b vs aL<|r.mono vt<|Kp.lst l)<|z.mono vt<|Kp.lst l
def Jz{vs:k_ V}(r:Yx 0)(h:Ol xs=false):vs≠[]:=by
 cases xs with
 |nil=>cases h
 |cons x xs=>
  cases vs with
  |nil=>exact r.elim
  |cons=>intro z;cases z
def RT:M_ (Vr .Add) Jy:=λc=>(Mx C.K c.K).imp λx y H Q h=>by
 let(T,h,p,q,r,w,Y,o):=h;unfold Jy at o;cases p with
 |int i=>
  cases q with
  |int j=>subst w;subst Y;show ζp rfl
  |_=>exact o.elim
 |str i=>
  cases q with
  |str j=>subst w;subst Y;show(o.ite.1,o.ite.2.val r rfl)
  |_=>exact o.elim
 |tup W=>
  cases q with
  |tup V=>show E2c w λa v z1 S R=>?_;subst z1;let(b,U,(z0),d,B):=Y;subst z0;let((t,s),o):=o.ite;show .inr (I4h a b v U rfl rfl S d (Jz R t) (by rw[<-R.length,<-B.length];show s) (λz=>?_) λz p P=>o.tnew r (R.append B) P);subst z;let e:=Wc B.l;subst e;show ζp (I2c a v rfl S (by rw[Vh];show R))
  |_=>exact o.elim
 |ref n=>
  cases q with
  |ref m=>
   let(a,rfl,A):=w;let(b,rfl,f):=Y;dsimp only at o;cases E:cD h n with
   |none=>rw[E]at o;show o.elim
   |some W=>
    cases u:cD h m with
    |none=>rw[E,u]at o;show o.elim
    |some V=>rw[E,u]at o;let(v,(t),l):=Z1 A<|gL E;let(U,(s),g):=r.at' m b _ f<|gL u;let(Z,o):=o.ite;show .inl (I4f a b v U rfl rfl t s (by rw[<-l.length,<-g.length];show Z) λp P=>o.lnew r (l.append g) P)
  |_=>exact o.elim
 |_=>exact o.elim
abbrev vInt(P:Int->Int->Prop)[∀i j,Decidable<|P i j](f:Int->Int->Int):PV->PV->PH->Yv 0:=λx y h=>match x,y with
 |.int i,.int j=>if P i j then .ok (.int<|f i j) h else .bad
 |_,_=>.bad
def Gj{P:Int->Int->Prop}[∀i j,Decidable<|P i j](O:O_ f (Bn P g)):M_ f (vInt P g):=λc=>O.imp λx y H Q h=>by
 let(z,h,p,q,(r),R,Y,o):=h;cases p with
 |int i=>
  cases q with
  |int j=>subst R;subst Y;show(o.ite.1,o.ite.2.val r rfl)
  |_=>exact o.elim
 |_=>exact o.elim
noncomputable instance(i j:Int):Decidable (Ez i j):=WX _
noncomputable instance(i j:Int):Decidable (IZ i j):=WX _
noncomputable instance(i j:Int):Decidable (Hn i j):=WX _
abbrev xE:PV->PV->PH->Yv 0:=λx y h=>match x,y with
 |.int i,.int j=>.ok (.int<|i-j) h
 |_,_=>.bad
def RU:M_ (Vr .Sub) xE:=λc=>My.imp λx y H Q h=>by
 let(z,h,p,q,(r),R,Y,o):=h;cases p with
 |int i=>
  cases q with
  |int j=>subst R;subst Y;show ζp rfl
  |_=>exact o.elim
 |_=>exact o.elim
noncomputable abbrev B3:=vInt Ez λi j=>i*j
noncomputable abbrev F9:=vInt IZ λi j=>i/j
@[reducible]def dS:=vInt (λ_ j=>0<j) λi j=>i%j
noncomputable abbrev Fb:=vInt Hn λi j=>i ^ j.toNat
def RW:M_ (Vr .Mult) B3:=Gj Mz
def RX:M_ (Vr .FloorDiv) F9:=Gj MA
def RY:M_ (Vr .Mod) dS:=Gj MB
def RZ:M_ (Vr .Pow) Fb:=Gj MD
abbrev MK:PV->PH->Yv 0:=λx h=>match x with
 |.int i=>.ok (.int<|-i) h
 |_=>.bad
variable{C:MC}{k:Nat}{X:Cx}
abbrev JA(f:Int->Int->Bool)(g:Z5 0->Z5 0->Bool):PV->PV->PH->Yv 0:=λx y h=>match x,y with
 |.int i,.int j=>.ok (.bl<|f i j) h
 |.str i,.str j=>.ok (.bl<|g i.cps.toList j.cps.toList) h
 |_,_=>.bad
def JB{p:Int->Int->Bool}{g:Z5 0->Z5 0->Bool}(O:O_ f (D8 p g)):M_ f (JA p g):=λc=>O.imp λx y H Q h=>by
 let(z,h,p,q,(r),R,Y,o):=h;cases p with
 |int i=>
  cases q with
  |int j=>subst R;subst Y;show ζp rfl
  |_=>exact o.elim
 |str i=>
  cases q with
  |str j=>subst R;subst Y;show ζp rfl
  |_=>exact o.elim
 |_=>exact o.elim
@[reducible]def vLt:=JA (λi j=>decide (i<j)) λi j=>decide (i<j)
@[reducible]def vGt:=JA (λi j=>decide (j<i)) λi j=>decide (j<i)
@[reducible]def vLe:=JA (λi j=>decide (i<=j)) λi j=>!decide (j<i)
def Uu:M_ (za .Lt) vLt:=JB Pq
def Uv:M_ (za .Gt) vGt:=JB Pr
def Uw:M_ (za .LtE) vLe:=JB Pt
mutual
def PV.d:PV->l7 D
 |.non=>a8 .non
 |.bl b=>a8 (.bl b)
 |.int i=>b0 i
 |.str x=>a8 (.str x)
 |.tup xs=>match PV.ds xs with
  |some ds=>a8 (.tup ds)
  |none=>a9
 |.ref _=>a9
 |.ty _=>a9
 |.fl _=>a9
def PV.ds:E_ 0->l7 (k_ D)
 |[]=>a8 []
 |x::xs=>match PV.d x,PV.ds xs with
  |some d,a8 ds=>a8 (d::ds)
  |_,_=>a9
end
abbrev ofB(o:β9 0)(h:PH):Yv 0:=match o with
 |some b=>.ok (.bl b) h
 |none=>.bad
def post.ofB{o:β9 0}{Q:VK}(q:v_ (ofB o h) Q):∃b,o=a8 b/\v_ (.ok (.bl b) h) Q:=by
 cases o with
 |none=>exact q.elim
 |some b=>exact I1b b rfl q
abbrev xF:PV->l7 Key
 |.int i=>a8 (.inl i)
 |.str x=>a8 (.inr x)
 |_=>a9
abbrev aS{κ:Type}[αg 0]:k_ (κ×PV)->κ->l7 PV
 |[],_=>a9
 |(a,p)::r,b=>if a=b then a8 p else aS r b
abbrev B4(h:PH)(n:Nat)(x:PV):l7 (l7 PV):=match h[n]? with
 |some (.dK kvs)=>match xF x with
  |some key=>a8 (Zf key)
  |none=>a9
 |_=>a9
abbrev JC(x:PV)(ys:E_ 0):β9 0:=match x.d,PV.ds ys with
 |some d,a8 ds=>if D.depths ds<=40 then a8 (ds.any λe=>eqD e d) else a9
 |_,_=>a9
abbrev Va(x y:PV)(h:PH):β9 0:=match y with
 |.tup ys=>JC x ys
 |.ref n=>match Ym n with
  |some ys=>JC x ys
  |none=>(B4 h n x).map Option.isSome
 |.fl ys=>JC x ys
 |_=>a9
variable{key:Key}
def Fc{x:PV}{v:V}(r:ia x v)(e:xF x=a8 key):v=kV key:=by cases x <;> first|(cases e;show r)|cases e
def Bt{κ:Type}[αg 0]{kvs:k_ (κ×PV)}{ks:k_ (κ×V)}(r:XU kvs ks)(a:κ):match Zf a,oA ks a with
  |some p,a8 v=>YW v
  |none,a9=>True
  |_,_=>False:=by
 induction r with
 |nil=>trivial
 | @cons p q s Q h t i=>
  let(y,x):=h;let(P,w):=p;by_cases e:P=a
  ·let E:=y.symm.trans e;rw[tD E];unfold aS;rw[αU 0];show x
  ·let E:=λz=>e<|y.trans z;rw[tF E];unfold aS;rw[Z4 0];show i
open H in
def rP{x:PV}{v:V}{o:l7 PV}(r:p7 h)(A:φ[n]?=a8 a)(m:ia x v)(e:B4 h n x=a8 o):
  ∃O,εO v O/\o.isSome=O.isSome/\∀p,o=a8 p->∃w,O=a8 w/\YW w:=by
 unfold B4 at e;split at e
 ·rename_i S t;split at e
  ·rename_i y K
   exists e
   let(s,(u),R):=Z1 A t;let q:=Bt R y;rw[Fc m K];show I1c (oA s y) (wY.k u) ?_ λp P=>?_
   ·cases z:aS S y <;> cases E:oA s y <;> rw[z,E]at q <;> first|rfl|exact q.elim
   ·rw[P]at q;cases E:oA s y with
    |none=>rw[E]at q;show q.elim
    |some w=>rw[E]at q;show I1b w rfl q
  ·exists e
 ·exists e
abbrev rQ:PV->Bool
 |.non=>true
 |_=>false
abbrev vIs:PV->PV->PH->Yv 0:=λx y h=>match y with
 |.non=>.ok (.bl<|rQ x) h
 |.bl b=>match x with
  |.bl a=>.ok (.bl<|a == b) h
  |_=>.bad
 |_=>.bad
abbrev iV:PV->PV->PH->Yv 0:=λx y h=>match y with
 |.non=>.ok (.bl<|!rQ x) h
 |.bl b=>match x with
  |.bl a=>.ok (.bl<|!(a == b)) h
  |_=>.bad
 |_=>.bad
def RV.isNon{v:V}(r:YW v):decide (v=.non)=rQ p:=by
 cases p with
 |non=>subst r;rfl
 |tup x=>let⟨a,s,rfl,_⟩:=r;rfl
 |ref n=>let⟨a,rfl,_⟩:=r;rfl
 |fl x=>let⟨a,s,rfl,_⟩:=r;rfl
 |_=>subst r;rfl
def Ux:M_ (za .Is) vIs:=λc=>(P8.or (λc6 s σ H x y v u Q I r R(h:∃a b,x=.bl a/\y=.bl b/\Q (.bl<|a == b) H)=>by let(a,b,rfl,rfl,q):=h;subst r;subst R;show PyProof.Rows.is_bool<|I2c (.bl _) H I rfl q)).imp λx y H Q h=>by
 let(w,h,p,q,(z),r,R,o):=h;cases q with
 |non=>subst R;show .inl ⟨rfl,?_⟩;rw[r.isNon];show o.val z rfl
 |bl b=>
  cases p with
  |bl a=>subst r;subst R;show .inr<|I2c a b rfl rfl<|o.val z rfl
  |_=>exact o.elim
 |_=>exact o.elim
def ML:M_ (za .IsNot) iV:=λc=>(M4.or (λc6 s σ H x y v u Q I r R(h:∃a b,x=.bl a/\y=.bl b/\Q (.bl<|!(a == b)) H)=>by let(a,b,rfl,rfl,q):=h;subst r;subst R;show PyProof.Rows.isnot_bool<|I2c (.bl _) H I rfl q)).imp λx y H Q h=>by
 let(w,h,p,q,(z),r,R,o):=h;cases q with
 |non=>subst R;show .inl ⟨rfl,?_⟩;rw[r.isNon];show o.val z rfl
 |bl b=>
  cases p with
  |bl a=>subst r;subst R;show .inr<|I2c a b rfl rfl<|o.val z rfl
  |_=>exact o.elim
 |_=>exact o.elim
abbrev tru(x:PV)(h:PH):X7 0:=match x with
 |.non=>.ok false h
 |.bl b=>.ok b h
 |.int i=>.ok (i != 0) h
 |.str y=>if y.l<=wa then .ok ((y.l:Int) != 0) h else .bad
 |.tup xs=>.ok (!xs.isEmpty) h
 |.ref n=>match Ym n with
  |some xs=>.ok (!xs.isEmpty) h
  |none=>match h[n]? with
   |some (.dK kvs)=>.ok (!kvs.isEmpty) h
   |_=>.bad
 |.fl xs=>.ok (!xs.isEmpty) h
 |.ty _=>.bad
def RVs.isEmpty{vs:k_ V}(r:Yx 0):(!vs.isEmpty)=!xs.isEmpty:=by cases xs <;> cases vs <;> first|rfl|exact r.elim
def cB.ite{c:Prop}[Decidable c]{r:X7 0}{Q:Bool->Hp->Prop}(h:YM (if c then r else .bad) Q):c/\YM r Q:=by
 by_cases z:c
 ·rw[β6 0]at h;show(z,h)
 ·rw[γN 0]at h;show h.elim
def cB.val{Q:Bool->Hp->Prop}(q:YM (.ok b h) Q)(r:p7 h):Q b H:=q φ H vt (δO 0) r
open H in
def Ic{v:V}{Q:Bool->Hp->Prop}(r:p7 h)(R:YW v)(o:YM (tru p h) Q):∃b,M6 C.K v H b/\Q b H:=by
 unfold tru at o;cases p with
 |non=>subst R;show A0 rfl<|o.val r
 |bl b=>subst R;show A0 rfl<|o.val r
 |int i=>subst R;show A0 rfl<|o.val r
 |str y=>subst R;show A0 ⟨o.ite.1,rfl⟩<|o.ite.2.val r
 |tup t=>let⟨a,S,rfl,s,z⟩:=R;show(_,.inr<|.inl ⟨S,s,rfl⟩,by rw[z.isEmpty];show o.val r)
 |ref n=>
  let(a,rfl,w):=R;dsimp only at o;cases e:Ym n with
  |some t=>rw[e]at o;let(j,S,(A),s,z):=bZ r e;rw[w]at A;exists A;show A0 (.inl ⟨S,s,rfl⟩) (by rw[z.isEmpty];show o.val r)
  |none=>
   rw[e]at o;dsimp only at o;split at o
   ·rename_i x m;let(u,(q),l):=Z1 w m;show(_,.inr<|.inr ⟨u,q,rfl⟩,?_);have:(!u.isEmpty)=!x.isEmpty:=by cases l <;> rfl
    rw[this];show o.val r
   ·show o.elim
 |fl t=>let⟨a,S,rfl,s,z⟩:=R;show(_,.inl ⟨S,s.sq,rfl⟩,by rw[z.isEmpty];show o.val r)
 |ty n=>exact o.elim
open PySem.SeqAt
abbrev Ie(y:PV)(h:PH):l7 (E_ 0):=match y with
 |.tup ys=>a8 ys
 |.ref n=>Ym n
 |_=>a9
variable{C:MC}{k:Nat}{X:Cx}
abbrev aN(m:Me):Ev->PH->X7 0:=λδ h=>(Zk h).bind tru
variable{m:Me}
def JD{σ:St}{Q:Bool->Hp->Prop}(h:rdB C (aN m) σ H Q):rd C m σ H λv z=>∃b,M6 C.K v z b/\Q b z:=by let(u,w,h,(y),e,p):=h;show I3c u w h y e<|(post.bindB p).imp ?_;show λv z z8=>εj 0 λt x s P T r R q=>?_;show Ic r R q
section
variable{a b c':j_}{mc:Me}{g g':PV->PV->PH->Yv 0}{ta tb:Ev->PH->X7 0}
def S0(h:n_ e m)(E:wP (∀w,βY w=(do let v <-w;standAt e.pos;holding [v] (truthy v))) kt):Zo e (aN m):=λc=>
 (J2 (h c) E).imp λz H Q q=>by rw[c.K];exact JD q
def S3(O:M_ (za op) g)(A:n_ a ma)(hb:n_ b mb)(M:wP (α9 b=false) ww):Zo (.Compare a [op] [b] pos) (aN<|aB g ma mb):=λc=>by
 show λp s t H Q I h=>wpAny_isTrue_Compare1 (thn (A c p s t H _ I<|Gi<|JD h) λv S z2=>E2c z2 λx r l R f=>thn (hb c p S t r _ l f) λu W z1=>E2c z1 λy o j Z d=>thn (O c p W t o x y v u _ j R Z d) λw V z0=>E2c z0 λz n i Y q=>?_) M;rw[<-c.K]at q;show J1 p V t n z w Q i Y q
abbrev Om(z:PV)(h:PH):Yv 0:=match z with
 |.bl b=>.ok (.bl b) h
 |_=>.bad
abbrev Vb(g g':PV->PV->PH->Yv 0)(ma mb mc:Me):Me:=λδ h=>(ma δ h).bind λx h1=>(mb δ h1).bind λy h2=>(g x y h2).bind λz h3=>match z with
 |.bl true=>(mc δ h3).bind λw h4=>(g' y w h4).bind Om
 |.bl false=>.ok (.bl false) h3
 |_=>.bad
abbrev qU(t:Ev->PH->X7 0):Ev->PH->X7 0:=λδ h=>(t δ h).bind λb h1=>.ok (!b) h1
abbrev qV(ta tb:Ev->PH->X7 0):Ev->PH->X7 0:=λδ h=>(ta δ h).bind λb h1=>match b with
 |true=>tb δ h1
 |false=>.ok false h1
abbrev oC(ta tb:Ev->PH->X7 0):Ev->PH->X7 0:=λδ h=>(ta δ h).bind λb h1=>match b with
 |true=>.ok true h1
 |false=>tb δ h1
def cB.imp{r:X7 0}{Q Q':Bool->Hp->Prop}(h:YM r Q)(i:∀v z,Q v z->Q' v z):YM r Q':=by
 cases r with
 |ok a x=>exact λy z p t R=>i a z (h y z p t R)
 |exc a x=>exact h
 |bad=>exact h
def S4(h:Zo e ta):Zo (.UnaryOp .Not e pos) (qU ta):=λc=>(IS<|h c).imp λs H Q q=>by let(w,x,h,(y),R,p):=q;show I3c w x h y R<|(cB.bindB p).imp ?_;show λb u z6=>E2d z6 λv t P T r z=>?_;show z.val r
abbrev SW(C:MC)(k:Nat)(X:Cx)(e:j_)(m:Ev->PH->X7 0):Prop:=A1 X->PW X e (rdB C m)
def SW.t(h:γB e ta):Zo e ta:=λc=>(h c).pt
def PW.imp{t t':TT}(h:PW X e t)(i:∀z H Q,t' z H Q->t z H Q):PW X e t':=λw p s z H Q I q=>h w p s z H Q I<|i z H Q q
def Pz(h:Zo a ta):γB (.BoolOp .And [a] pos) ta:=λc=>G5<|h c
def S5(h:Zo a ta):γB (.BoolOp .Or [a] pos) ta:=λc=>OR<|h c
def w_and{rest:k_ j_}(A:Zo a ta)(hb:γB (.BoolOp .And (b::rest) pos) tb):γB (.BoolOp .And (a::b::rest) pos) (qV ta tb):=λc=>PW.imp (Ew (A c)<|hb c) λo H Q q=>by
 let(u,x,h,(v),R,p):=q;show I3c u x h v R<|(cB.bindB p).imp ?_;show λb s z6=>E2d z6 λz w P t r y=>?_;cases b with
 |true=>exact D3<|I3c z x w r (αA t) y
 |false=>exact CZ<|y.val r
def w_or{rest:k_ j_}(A:Zo a ta)(hb:γB (.BoolOp .Or (b::rest) pos) tb):γB (.BoolOp .Or (a::b::rest) pos) (oC ta tb):=λc=>PW.imp (Rf (A c)<|hb c) λo H Q q=>by
 let(u,x,h,(v),R,p):=q;show I3c u x h v R<|(cB.bindB p).imp ?_;show λb s z6=>E2d z6 λz w P t r y=>?_;cases b with
 |true=>exact D3<|y.val r
 |false=>exact CZ<|I3c z x w r (αA t) y
abbrev Bu(ma mb:Me):Me:=λδ h=>(ma δ h).bind λx h1=>match x with
 |.bl true=>mb δ h1
 |.bl false=>.ok (.bl false) h1
 |_=>.bad
abbrev Ig(ma mb:Me):Me:=λδ h=>(ma δ h).bind λx h1=>match x with
 |.bl true=>.ok (.bl true) h1
 |.bl false=>mb δ h1
 |_=>.bad
def S6{op}(h:n_ a ma):n_ (.BoolOp op [a] pos) ma:=λc=>OS<|h c
def S7{rest:k_ j_}(A:n_ a ma)(hb:n_ (.BoolOp .And (b::rest) pos) mb):n_ (.BoolOp .And (a::b::rest) pos) (Bu ma mb):=λc=>(ME (A c)<|hb c).imp λn H Q q=>by
 let(s,w,h,(t),R,p):=q;show I3c s w h t R<|(αh 0).imp ?_;show λv o z8=>εj 0 λy x u P T r V z=>?_;cases x with
 |bl b=>
  subst V;cases b with
  |true=>exact D3<|I3c y w u r (αA T) z
  |false=>exact CZ<|z.val r rfl
 |_=>exact z.elim
def Uy{rest:k_ j_}(A:n_ a ma)(hb:n_ (.BoolOp .Or (b::rest) pos) mb):n_ (.BoolOp .Or (a::b::rest) pos) (Ig ma mb):=λc=>(Pu (A c)<|hb c).imp λn H Q q=>by
 let(s,w,h,(t),R,p):=q;show I3c s w h t R<|(αh 0).imp ?_;show λv o z8=>εj 0 λy x u P T r V z=>?_;cases x with
 |bl b=>
  subst V;cases b with
  |true=>exact D3<|z.val r rfl
  |false=>exact CZ<|I3c y w u r (αA T) z
 |_=>exact z.elim
abbrev mIf(t:Ev->PH->X7 0)(ma mb:Me):Me:=λδ h=>(t δ h).bind λb h1=>match b with
 |true=>ma δ h1
 |false=>mb δ h1
def MM(T:Zo c' ta)(A:n_ a ma)(hb:n_ b mb):n_ (.IfExp c' a b pos) (mIf ta ma mb):=λc=>(IT (T c) (A c)<|hb c).imp λo H Q q=>by
 let(u,y,h,(v),R,p):=q;show I3c u y h v R<|(cB.bind p).imp ?_;show λb s z6=>E2d z6 λz x P t r w=>?_;cases b with
 |true=>exact D3<|I3c z y x r (αA t) w
 |false=>exact CZ<|I3c z y x r (αA t) w
end
def RVs.atI{vs:k_ V}{i:Int}{x:PV}(r:Yx 0)(e:_L.atI xs i=a8 x):∃v,_L.atI vs i=a8 v/\ia x v:=by
 unfold _L.atI at e⊢;rw[<-r.length];cases q:ixN _ i with
 |none=>rw[q]at e;cases e
 |some j=>rw[q]at e;show r.at e
abbrev ofO(o:l7 PV)(h:PH):Yv 0:=match o with
 |some p=>.ok p h
 |none=>.bad
abbrev vIx:PV->PV->PH->Yv 0:=λx y h=>match x with
 |.str z=>(match y with
  |.int i=>if z.l<=wa then ofO ((βb i).map λc=>.str ⟨#[c]⟩) h else .bad
  |_=>.bad)
 |.tup xs=>(match y with
  |.int i=>ofO (βa i) h
  |_=>.bad)
 |.fl xs=>(match y with
  |.int i=>ofO (βa i) h
  |_=>.bad)
 |.ref n=>(match Ym n with
  |some xs=>(match y with
   |.int i=>ofO (βa i) h
   |_=>.bad)
  |none=>(match B4 h n y with
   |some o=>ofO o h
   |none=>.bad))
 |_=>.bad
def post.ofO{o:l7 PV}{Q:VK}(q:v_ (ofO o h) Q):∃p,o=a8 p/\v_ (.ok p h) Q:=by
 cases o with
 |none=>exact q.elim
 |some b=>exact I1b b rfl q
def S8{x y:V}{Q:VK}(h:r2 C vIx x y H Q):RI C.K x y H Q:=by
 let(U,h,p,q,r,m,Y,P):=h;unfold vIx at P;cases p with
 |str z=>
  subst m;cases q with
  |int i=>
   subst Y;let(Z,P):=P.ite;let(p,(e),P):=P.ofO;cases E:atI _ i with
   |none=>rw[E]at e;exists e
   |some c=>rw[E]at e;exists e;show(Z,c,E,αI rfl)
  |_=>exact P.elim
 |tup j=>
  let(a,S,rfl,s,R):=m;cases q with
  |int i=>
   cases Y
   let(p,e,P):=P.ofO;let(v,u,t):=R.atI e;show .inl ⟨S,i,v,rfl,.inr s,u,αI t⟩
  |_=>exact P.elim
 |fl j=>
  let(a,S,rfl,s,R):=m;cases q with
  |int i=>
   cases Y
   let(p,e,P):=P.ofO;let(v,u,t):=R.atI e;show .inl ⟨S,i,v,rfl,.inl s.sq,u,αI t⟩
  |_=>exact P.elim
 |ref n=>
  let(a,rfl,l):=m;dsimp only at P;cases e:Ym n with
  |some j=>
   rw[e]at P;let(d,S,(A),s,R):=bZ r e;rw[l]at A;exists A;cases q with
   |int i=>subst Y;let(p,(e),P):=P.ofO;let(v,(u),t):=R.atI e;show .inl<|I3d S i v rfl (.inl s) u<|P.val r t
   |_=>exact P.elim
  |none=>
   rw[e]at P;cases E:B4 h n q with
   |none=>rw[E]at P;show P.elim
   |some o=>rw[E]at P;let(p,(O),P):=P.ofO;let(b,(g),_,f):=rP r l Y E;let(w,rfl,W):=f p O;show .inr ⟨w,g,αI W⟩
 |_=>exact P.elim
variable{vl vu:gV}
def qQ{t sl:h_}{lo hi:Yd 0}(H:Zv t items)(S:Z3 vu .none)(p:IsPart vl lo)(u:IsPart vu hi)(W:αO 0 lo=0/\αO items.size hi=items.size)(h:Q (.ref t) s):l_ (getItem (.ref t)<|.ref sl) Q E s:=by
 let(O,(o),c,d):=id S;unfold getItem
 try with_reducible refine yq ?_
 skip
 show eg (wpAny_sequenceKey H.typeIs (by decide) ?_);show eg (yb H.typeIs ze
  (yc ze H.typeIs entry_tuple_getitem ?_ (args_tuple_getitem _ _)))
 change n7 (Xq _ >>= _) _ _ s
 show eg<|tupleItemsOf_ H ?_;show eg<|Wt (I1b O o c) ?_;show eg<|HT.sliceApplied_gen S p u ?_;let n:((((HT.sIx items.size 0 lo:Nat):Int) == 0&&(1:Int) == 1&&(αO items.size hi-αO 0 lo) == items.size)=true):=by simp_all
 change n7 (if(((HT.sIx _ 0 lo:Nat):Int) == 0&&(1) == 1&&(HT.sIx _ _ hi-HT.sIx _ 0 lo) == items.size)=true then _ else _) _ _ s
 rw[if_pos n];show eg ?_;show eg<|Wt H.typeIs<|vh ?_;show eg<|W5 ?_;show vh<|I1b _ rfl<|vh h
variable{C:MC}{k:Nat}{X:Cx}
abbrev fP{α:Type}(xs:k_ α)(lo hi:Yd 0):k_ α:=(xs.drop<|HT.sIx xs.l 0 lo).take<|HT.sIx xs.l xs.l hi-αX 0 lo
def RVs.cut{vs:k_ V}(r:Yx 0)(lo hi):p5 (fP xs lo hi) (Hw vs lo hi):=by unfold fP Hw;rw[<-r.length];show(r.drop _).take _
abbrev vSl:PV->Yd 0->Yd 0->PH->Yv 0:=λx lo hi h=>match x with
 |.str z=>if z.l<=wa then .ok (.str<|Vl z lo hi) h else .bad
 |.tup xs=>.ok (.tup<|fP xs lo hi) h
 |.ref n=>match Ym n with
  |some xs=>.ok (.ref h.l) (h++[.lst<|fP xs lo hi])
  |none=>.bad
 |.fl xs=>.ok (.ref h.l) (h++[.lst<|fP xs lo hi])
 |_=>.bad
abbrev S9(K:vj):V->Yd 0->Yd 0->Hp->VK->Prop:=λx lo hi H Q=>∃a xs,x=.ref a/\Yk a xs/\(αX 0 lo=0/\αX xs.l hi=xs.l)/\Q (.ref a) H
def JE:εz (S9 X.K):=by
 show λp s m H x v V U L o n Q I R S P u z6=>E2d z6 λa y z0 z w q=>?_;subst z0;subst R;let(i,(r),t,Z):=I.tuple z;let l:i.toArray.size=y.l:=by rw[v9];show r.length.symm
 show I2c ("tuple") _ ze.lookup t.typeIs ?_;show qQ t S P u (by rw[l];show w)<|I2c (.ref a) H I rfl q
def SlR.imp{r r':V->Yd 0->Yd 0->Hp->VK->Prop}(h:εz r)(i:∀x l z H Q,r' x l z H Q->r x l z H Q):εz r':=λp s w H x v y U l z L Q I R S P u q=>h p s w H x v y U l z L Q I R S P u<|i x l z H Q q
abbrev r3(C:MC)(g:PV->Yd 0->Yd 0->PH->Yv 0):V->Yd 0->Yd 0->Hp->VK->Prop:=λx lo hi H Q=>∃φ h p,p7 h/\YW x/\v_ (g p lo hi h) Q
def PB(y:X.K=C.K):εz (r3 C vSl):=by
 let e:εz (λx l i H Q=>RF x l i H Q\/Ru C.K x l i H Q\/Rx C.K x l i H Q\/S9 C.K x l i H Q):=by rw[<-y];show Pp.or<|Pe.or<|Mn.or JE
 show e.imp λx l i H Q h=>?_;let(q,h,p,R,V,o):=h;unfold vSl at o;cases p with
 |str z=>subst V;show .inl<|I1c z rfl o.ite.1<|o.ite.2.val R rfl
 |tup S=>
  let(a,v,rfl,s,r):=V;by_cases w:HT.sIx v.l 0 l=0/\HT.sIx v.l v.l i=v.l
  ·show .inr (.inr<|.inr ⟨a,v,rfl,s,w,o.val R<|I2c a v rfl s ?_⟩);let e:fP S l i=S:=by unfold fP;rw[r.length,w.1,w.2,List.drop_zero,Nat.sub_zero,<-r.length,Xx]
   rw[e];show r
  ·show .inr (.inl<|I2d a v rfl s w λp P=>o.tnew R (r.cut l i) P)
 |ref n=>
  let(a,rfl,u):=V;dsimp only at o;cases e:Ym n with
  |none=>rw[e]at o;show o.elim
  |some S=>rw[e]at o;let(t,v,(A),s,r):=bZ R e;rw[u]at A;cases A;show .inr<|.inr<|.inl<|I2c a v rfl s λp P=>ζq (r.cut l i) P
 |fl S=>let⟨a,v,rfl,s,r⟩:=V;show .inr<|.inr<|.inl<|I2c a v rfl s.sq λp P=>ζq (r.cut l i) P
 |_=>exact o.elim
@[reducible]def Mo:=Ev->PH->Rs (Yd 0)
abbrev wJ(C:MC)(φ:k_ h_)(H:Hp)(r:Rs (Yd 0))(Q:Yd 0->Hp->Prop):Prop:=match r with
 |.ok b h=>∀φ' H',φ<+:φ'->XT H'->N_ h->Q b H'
 |.exc x h=>∀φ' H',φ<+:φ'->XT H'->N_ h->αZ x
 |.bad=>False
abbrev rdO(C:MC)(m:Mo):TO:=λσ H Q=>∃φ δ h,p7 h/\F_ 0/\wJ C φ H (Zk h) Q
abbrev SO(C:MC)(k:Nat)(X:Cx)(e:l7 j_)(m:Mo):Prop:=A1 X->PO X e (rdO C m)
abbrev kM:Mo:=λ_ h=>.ok a9 h
abbrev mP(m:Me):Mo:=λδ h=>(Zk h).bind λx h1=>match x with
 |.int i=>.ok (a8 i) h1
 |_=>.bad
def PC:SO C k X a9 kM:=λc i s z H Q I h=>by let(y,x,h,(r),e,p):=h;show Mh i s z H Q I<|p y H vt (δO 0) r
def PD(h:n_ e m):SO C k X (a8 e) (mP m):=λc n s l H Q I q=>by
 show Ji (h c) n s l H Q I ?_;let(j,y,h,(o),t,p):=q;show I3c j y h o t ?_;unfold mP at p;cases E:m y h with
 |ok x u=>
  rw[E]at p;intro z v w P T r R;cases x with
  |int i=>subst R;show p z w P T r
  |_=>exact p.elim
 |exc x u=>rw[E]at p;show p
 |bad=>rw[E]at p;show p
abbrev mSl(me:Me)(ml mh:Mo):Me:=λδ h=>(me δ h).bind λx h1=>(ml δ h1).bind λl h2=>(mh δ h2).bind λu h3=>vSl x l u h3
def wJ.bind{r:Rs (Yd 0)}{f:Yd 0->PH->Yv 0}{Q:VK}(h:v_ (γP 0) Q):wJ C φ H r λb y=>∃z v,φ<+:z/\XT y/\YG z y v/\ZG z y (f b v) Q:=by
 cases r with
 |ok a w=>exact λx u p t R=>I2d x w p t R (α0 h)
 |exc a w=>exact h
 |bad=>exact h
variable{Q':Yd 0->Hp->Prop}
def wJ.imp{r:Rs (Yd 0)}{Q:Yd 0->Hp->Prop}(h:wJ C φ H r Q)(i:∀v z,Q v z->Q' v z):wJ C φ H r Q':=by
 cases r with
 |ok a x=>exact λy z p t R=>i a z (h y z p t R)
 |exc a x=>exact h
 |bad=>exact h
variable{hi lo:l7 j_}{me:Me}{mh ml:Mo}{p2:Pos}
def Uz(E:n_ e me)(L:SO C k X lo ml)(i:SO C k X hi mh):n_ (.Subscript e (.Slice lo hi a9 p2) pos) (mSl me ml mh):=λc=>(J9 (PB c.K) (E c) (L c)<|i c).imp λO H Q h=>by let(Y,w,h,(a),r,p):=h;show I3c Y w h a r<|(αh 0).imp ?_;show λv W dv=>E3e dv λt x n P T R V f=>?_;show I3c t w n R (δs T)<|(wJ.bind f).imp ?_;show λl U z7=>E2d z7 λs m p2 o z d=>?_;show I3c s w m z (r.mono (P.trans p2)<|T.trans o)<|(wJ.bind d).imp ?_;show λu S z6=>E2d z6 λq j g Z y b=>?_;show I3c q j x y (V.mono (p2.trans g)<|o.trans Z) b
@[reducible]def Ma:=Ev->PH->Rs (E_ 0)
abbrev aC:Ma:=λ_ h=>.ok [] h
abbrev aA(m:Me)(ms:Ma):Ma:=λδ h=>(Zk h).bind λx h1=>(Yh h1).bind λxs h2=>.ok (x::xs) h2
def PA.imp{t t':TA}(h:ε5 t)(i:∀z H Q,t' z H Q->t z H Q):ε5 t':=λpos p s z H Q I q=>h pos p s z H Q I<|i z H Q q
def Gk:YN [] aC:=λc=>uU.imp λx H Q h=>by let(z,y,h,(r),e,p):=h;show p z [] H vt (δO 0) r trivial
def postA.imp{Q Q':k_ V->Hp->Prop}(h:Yz r Q)(i:∀v z,Q v z->Q' v z):Yz r Q':=by
 cases r with
 |ok a x=>exact λy v z p t R w=>i v z (h y v z p t R w)
 |exc a x=>exact h
 |bad=>exact h
variable{ms:Ma}
def zE(q:n_ e m)(S:YN es ms)(o:wP (wj (e::es) X.env=(false,A5 0)::X2 0) zn):YN (e::es) (aA m ms):=λc=>(mJ (q c) (S c) o).imp λY H Q h=>by let(d,t,h,(i),E,p):=h;show I3c d t h i E<|(post.bindA p).imp ?_;show λv b z9=>E3e z9 λy x s P T r V l=>?_;show I3c y t s r (E.mono P T)<|(postA.bindA l).imp ?_;show λf u z8=>εj 0 λw Z a n g R z j=>?_;show j w _ u vt (Kp.refl u) R ⟨V.mono n g,z⟩
abbrev aX(ms:Ma):Me:=λδ h=>(Yh h).bind λxs h1=>if xs.l<=wa then .ok (.tup xs) h1 else .bad
abbrev cK(ms:Ma):Me:=λδ h=>(Yh h).bind λxs h1=>if xs.l<=wa then .ok (.ref h1.l) (h1++[.lst xs]) else .bad
def S'{x1}(s:YN es ms):n_ (.Tuple es x1 pos) (aX ms):=λc=>(Pb<|s c).imp λo H Q h=>by let(x,y,h,(z),e,p):=h;show I3c x y h z e<|(postA.bind p).imp ?_;show λV v z8=>εj 0 λw S u t T R r q=>?_;show(by rw[<-r.length];show q.ite.1,λp P=>q.ite.2.tnew R r P)
def Gm(s:YN es ms):n_ (.List es pos) (cK ms):=λc=>(Pc<|s c).imp λo H Q h=>by let(x,y,h,(z),e,p):=h;show I3c x y h z e<|(postA.bind p).imp ?_;show λV v z8=>εj 0 λw S u t T R r q=>?_;show(by rw[<-r.length];show q.ite.1,λp P=>q.ite.2.lnew R r P)
abbrev dI:Me:=λ_ h=>.ok (.ref h.l)<|h++[.dK []]
def MN:n_ (.Dict [] [] pos) dI:=λc=>Je.imp λx H Q h=>by let(z,y,h,(r),e,p):=h;show λa A=>p _ _ _ (ζn _) (Kp.new A) (r.new A<|I1b [] aL .nil) ⟨a,rfl,by rw[<-r.len];simp⟩
abbrev mCB(g:E_ 0->PH->Yv 0)(ms:Ma):Me:=λδ h=>(Yh h).bind g
def On{g:E_ 0->PH->Yv 0}{σ:St}{Q:VK}(h:rd C (mCB g ms) σ H Q):tCB (rL C g) (rdA C ms) σ H Q:=by let(u,w,h,(R),e,p):=h;show I3c u w h R e<|(postA.bind p).imp ?_;show λs t z8=>εj 0 λz x y P T r v q=>?_;show I3c z y x r v q
def qH{p:Pos}{id:String}{g:E_ 0->PH->Yv 0}(z:Zp (.builtin id) g)(v:Wj x=a8 (.builtin id))(a:YN (e::es) ms)(hb:wP (x∈C.bs) xL)(G:wP (Zu x) zn)(n:wP (x≠"__name__" ) xL)(d:wP ((x == ("__debug__" : Str))=false) xL)(E:wP (wj (e::es) X.env=(false,A5 0)::X2 0) zn)(l:wP ((H_<|wj es X.env).any (·.1)=false) zn):n_ (.Call (.Name x p) (e::es) [] pos) (mCB g ms):=λc=>(yK (z c) G (c.bn x hb) v (a c) n d E l).imp λy H Q h=>On h
variable{T:String}
def tR{p:Pos}{g:E_ 0->PH->Yv 0}(z:Zp (.type T) g)(v:Wj x=a8 (.type T))(a:YN (e::es) ms)(hb:wP (x∈C.bs) xL)(G:wP (Zu x) zn)(n:wP (x≠"__name__" ) xL)(d:wP ((x == ("__debug__" : Str))=false) xL)(E:wP (wj (e::es) X.env=(false,A5 0)::X2 0) zn)(l:wP ((H_<|wj es X.env).any (·.1)=false) zn):n_ (.Call (.Name x p) (e::es) [] pos) (mCB g ms):=λc=>(Bg (z c) G (c.bn x hb) v (a c) n d E l).imp λy H Q h=>On h
abbrev spM(C:MC)(n:Nat)(f:Fn):Sp:=λvs H Q _=>∃φ h ps,p7 h/\p5 ps vs/\ps.l=n/\v_ (f ps h) Q
abbrev bD(n:Nat)(f:Fn)(ms:Ma):Me:=λδ h=>(Yh h).bind λps h1=>if ps.l=n then f ps h1 else .bad
def s_call{p:Pos}{f:Fn}(D:Z8 x st a fd ps)(G:q_ a fd ps (βV n f))(A:YN (e::es) ms)(J:wP (j<=k) xL)(t:wP (Zu x) zn)(d:wP ((x == ("__debug__" : Str))=false) xL)(u:wP (wj (e::es) X.env=(false,A5 0)::X2 0) zn)(l:wP ((H_<|wj es X.env).any (·.1)=false) zn):
  n_ (.Call (.Name x p) (e::es) [] pos) (bD n f ms):=λc=>by
 let E:=c.K;show(RM (by rw[E];show D) (by rw[E];show G) (γ0 0) (A c) t d u l).imp λZ H Q h=>?_;let(m,o,h,(s),R,p):=h;show I3c m o h s R<|(postA.bind p).imp ?_;show λV i z8=>εj 0 λz S y P b r v q=>?_;show I3d z y S r (by rw[Vh];show v) q.ite.1 q.ite.2
abbrev lM:E_ 0->PH->Yv 0:=λxs h=>match xs with
 |[.str y]=>if y.l<=wa then .ok (.int y.l) h else .bad
 |[.tup ys]=>.ok (.int ys.l) h
 |[.fl ys]=>.ok (.int ys.l) h
 |[.ref n]=>match Ym n with
  |some ys=>.ok (.int ys.l) h
  |none=>match h[n]? with
   |some (.dK kvs)=>.ok (.int kvs.l) h
   |_=>.bad
 |_=>.bad
def RVs.one{x:PV}{vs:k_ V}(r:p5 [x] vs):∃v,vs=[v]/\ia x v:=by
 match vs,r with
 |[v],⟨h,_⟩=>exact εC rfl h
 |[],h=>exact h.elim
 |_::_::_,⟨_,h⟩=>exact h.elim
variable{y:PV}
def RVs.two{x:PV}{vs:k_ V}(r:p5 [x,y] vs):∃v w,vs=[v,w]/\ia x v/\ia y w:=by
 match vs,r with
 |[v,w],⟨h,z,_⟩=>exact I2c v w rfl h z
 |[],h=>exact h.elim
 |[_],⟨_,h⟩=>exact h.elim
 |_::_::_::_,⟨_,_,h⟩=>exact h.elim
open H in
def Sa:Zp (.builtin "len") lM:=λc=>(HG C.K c.K).imp λs H Q h=>by
 let(m,h,P,(r),V,p):=h;unfold lM at p;split at p
 ·let(v,rfl,x):=V.one;subst x;show(p.ite.1,p.ite.2.val r rfl)
 ·let(v,rfl,(a,s,rfl,S,R)):=V.one;show .inl ⟨s,.inr S,by rw[<-R.length];show βB rfl⟩
 ·let(v,rfl,(a,s,rfl,S,R)):=V.one;show .inl ⟨s,.inl S.sq,by rw[<-R.length];show βB rfl⟩
 ·rename_i n;let(v,rfl,(a,rfl,z)):=V.one;split at p
  ·rename_i Y e;let(o,s,(A),S,R):=bZ r e;rw[z]at A;exists A;show .inl ⟨s,.inl S,by rw[<-R.length];show βB rfl⟩
  ·split at p
   ·rename_i t w;let(u,(y),q):=Z1 z w;show .inr<|I1b u y ?_;have:=(yr q).symm;rw[this];show βB rfl
   ·show p.elim
 ·show p.elim
abbrev oI:E_ 0->PH->Yv 0:=λxs h=>match xs with
 |[.tup ys]=>.ok (.tup ys) h
 |[.fl ys]=>.ok (.tup ys) h
 |[.ref n]=>match Ym n with
  |some ys=>.ok (.tup ys) h
  |none=>.bad
 |_=>.bad
open H in
def MP:Zp (.type "tuple") oI:=λc=>(D9 C.K c.K).imp λs H Q h=>by
 let(u,h,w,(R),V,o):=h;unfold oI at o;split at o
 ·let(v,rfl,(a,s,rfl,S,r)):=V.one;show(a,s,rfl,.inr ⟨S,o.val R<|I2c a s rfl S r⟩)
 ·let(v,rfl,(a,s,rfl,S,r)):=V.one;show(a,s,rfl,.inl ⟨S.sq,λp P=>o.tnew R r P⟩)
 ·let(v,rfl,(a,rfl,z)):=V.one;split at o
  ·rename_i Y e;let(y,s,(A),S,r):=bZ R e;rw[z]at A;cases A;show I2b a s rfl<|.inl ⟨S,λp P=>o.tnew R r P⟩
  ·show o.elim
 ·show o.elim
abbrev Dp:E_ 0->PH->Yv 0:=λxs h=>match xs with
 |[.tup ys]=>.ok (.ref h.l) (h++[.lst ys])
 |[.fl ys]=>.ok (.ref h.l) (h++[.lst ys])
 |[.ref n]=>match Ym n with
  |some ys=>.ok (.ref h.l) (h++[.lst ys])
  |none=>.bad
 |_=>.bad
open H in
def PF:Zp (.type "list") Dp:=λc=>(EM C.K c.K).imp λs H Q h=>by
 let(u,h,w,(R),V,o):=h;unfold Dp at o;split at o
 ·let(v,rfl,(a,s,rfl,S,r)):=V.one;show(a,s,rfl,.inr S,λp P=>ζq r P)
 ·let(v,rfl,(a,s,rfl,S,r)):=V.one;show(a,s,rfl,.inl S.sq,λp P=>ζq r P)
 ·let(v,rfl,(a,rfl,z)):=V.one;split at o
  ·rename_i Y e;let(y,s,(A),S,r):=bZ R e;rw[z]at A;cases A;show I2c a s rfl (.inl S) λp P=>ζq r P
  ·show o.elim
 ·show o.elim
abbrev JF:E_ 0->PH->Yv 0:=λxs h=>match xs with
 |[.int i,.int j]=>.ok (.int<|if j>i then j else i) h
 |_=>.bad
def Sb:Zp (.builtin "max") JF:=λc=>(HH c.calm).imp λV H Q h=>by
 let(z,h,s,(r),R,p):=h;unfold JF at p;split at p
 ·let(v,w,(z0),x,y):=R.two;subst z0;subst x;subst y;show βB rfl
 ·show p.elim
variable{C:MC}{k:Nat}{X:Cx}
abbrev Rs.fl{α:Type}(r:Rs α)(f:α->PH->Fl):Fl:=match r with
 |.ok a h=>f a h
 |.exc x h=>.exc x h
 |.bad=>.bad
@[simp]theorem Rs.fl_ok{α:Type}(a:α)(h:PH)(f:α->PH->Fl):(Rs.ok a h).fl f=f a h:=(rfl)
def post.fl{r:Yv 0}{f:PV->PH->Fl}{D:Ends}(h:Y9 (r.fl f) D):v_ r λv y=>∃z p u,φ<+:z/\XT y/\YG z y u/\RV C z y p v/\bY C z y (f p u) D:=by
 cases r with
 |ok a w=>exact λx v s p t R V=>I3e x a w p t R V (δP h)
 |exc a w=>exact h
 |bad=>exact h
def cB.fl{r:X7 0}{f:Bool->PH->Fl}{D:Ends}(h:Y9 (r.fl f) D):YM r λb y=>∃z v,φ<+:z/\XT y/\YG z y v/\bY C z y (f b v) D:=by
 cases r with
 |ok a w=>exact λx u p t R=>I2d x w p t R (δP h)
 |exc a w=>exact h
 |bad=>exact h
def bY.nx{D:Ends}{σ:St}(q:Y9 (.nx δ h) D)(R:p7 h)(r:F_ 0):β4 H:=q φ σ H vt (δO 0) R r
def bY.rt{D:Ends}{v:V}(q:Y9 (.rt p h) D)(r:p7 h)(R:YW v):D.rt v H:=q φ v H vt (δO 0) r R
@[reducible]def Mg:=PV->Ev->l7 Ev
@[reducible]def Mgs:=E_ 0->Ev->l7 Ev
abbrev rdG(C:MC)(t:Mg):TG:=λv σ H Q=>∃φ δ h p δ',p7 h/\F_ 0/\YW v/\t p δ=a8 δ'/\∀σ',γA δ' σ'->Q σ' H
abbrev UA(C:MC)(t:Mgs):TGs:=λvs σ H Q=>∃φ δ h ps δ',p7 h/\F_ 0/\p5 ps vs/\t ps δ=a8 δ'/\∀σ',γA δ' σ'->Q σ' H
abbrev SG(C:MC)(k:Nat)(X:Cx)(e:j_)(t:Mg):Prop:=A1 X->PG X e (rdG C t)
abbrev SGs(C:MC)(k:Nat)(X:Cx)(es:k_ j_)(t:Mgs):Prop:=A1 X->δl (UA C t)
abbrev gN(i:Nat):Mg:=λp δ=>a8<|δ.set i<|a8 p
abbrev gNl:Mgs:=λps δ=>match ps with
 |[]=>a8 δ
 |_::_=>a9
abbrev gCn(t:Mg)(u:Mgs):Mgs:=λps δ=>match ps with
 |p::r=>(t p δ).bind (u r)
 |[]=>a9
abbrev gTp(n:Nat)(u:Mgs):Mg:=λp δ=>match p with
 |.tup ps=>if ps.l=n then u ps δ else a9
 |_=>a9
def PG.imp{t t':TG}(h:PG X e t)(i:∀v z H Q,t' v z H Q->t v z H Q):PG X e t':=λp s z H v u Q I r q=>Zx v u Q I r<|i v z H Q q
def PGs.imp{t t':TGs}(h:δl t)(i:∀v z H Q,t' v z H Q->t v z H Q):δl t':=λp s z H v u Q I r q=>Zx v u Q I r<|i v z H Q q
def PJ(z:X.N.Nodup)(hi:wP (X.N[i]?=a8 x) zn)(y:wP (ZP x) wf)(f:wP (X.fn x=true\/A6 0=a8 .local) wl):δQ X (.Name x pos) (gN i):=λc=>
 (LZ z hi y f).imp λv s H Q h=>by
  let(o,t,h,p,w,(u),r,R,e,q):=h
  exists e
  show q _<|r.set R i
def Sd:SGs C k X [] gNl:=λc=>M0.imp λv y H Q h=>by
 let(u,w,h,p,z,(x),r,R,e,q):=h;cases p with
 |nil=>
  exists e
  cases v with
  |nil=>exact⟨rfl,q y r⟩
  |cons=>exact R.elim
 |cons=>exists e
def PK{t:Mg}{u:Mgs}(h1:δQ X e t)(h2:SGs C k X es u)(S:wP ((Wq (e::es) X.env).map (·.2)=assign e X.env::(βe 0).map (·.2)) zn):SGs C k X (e::es) (gCn t u):=λc=>
 (IV (h1 c) (h2 c) S).imp λs j H Q h=>by
  let(o,w,h,P,z,x,m,V,e,q):=h;cases P with
  |nil=>exists e
  |cons p r=>
   cases s with
   |nil=>exact V.elim
   |cons v s=>
    let(y,(E),n):=Option.bind_eq_some_iff.mp<|show(t p w).bind (u r)=a8 z from e
    show(v,s,rfl,o,w,h,p,y,x,m,V.1,E,λl R=>(I5e o y h r z x R V.2 n q))
def Se{u:Mgs}(h:SGs C k X es u)(N:wP ((βe 0).length=n) zn)(t:wP ((βe 0).findIdx? (·.1)=a9) zn):δQ X (.Tuple es j pos) (gTp n u):=λc=>
 (gT C.K c.K c.calm (h c) N t).imp λv m H Q h=>by
  let(o,y,h,p,z,x,R,V,e,q):=h;cases p with
  |tup s=>
   let(a,w,(z0),S,r):=V;subst z0;by_cases l:s.l=n
   ·let E:u s y=a8 z:=by have:(if _=n then u s y else a9)=a8 z:=e;rw[if_pos l]at this;show this
    show(a,w,rfl,S,by rw[<-r.length];show l,o,y,h,s,z,x,R,r,E,q)
   ·have:(if _=n then u s y else a9)=a8 z:=e;rw[if_neg l]at this
    exists this
  |_=>exists e
def PS.imp{t t':TS}(h:PS X st t)(i:∀D z H,t' D z H->t D z H):PS X st t':=λp s z H D I q=>Zx D I<|i D z H q
def PSs.imp{st:k_ ko}{t t':TS}(h:εu st t)(i:∀D z H,t' D z H->t D z H):εu st t':=λp s z H D I q=>Zx D I<|i D z H q
abbrev aF(a b:Ms):Ms:=λδ h=>match a δ h with
 |.nx δ1 h1=>b δ1 h1
 |r=>r
abbrev bP:Ms:=λδ h=>.nx δ h
abbrev MQ:Ms:=λδ h=>.ct δ h
abbrev aT(i:Nat)(m:Me):Ms:=λδ h=>(Zk h).fl λp h1=>.nx (βN<|a8 p) h1
abbrev qR(m:Me)(t:Mg):Ms:=λδ h=>(Zk h).fl λp h1=>match t p δ with
 |some δ'=>.nx δ' h1
 |none=>.bad
abbrev dY(m:Me):Ms:=λδ h=>(Zk h).fl λ_ h1=>.nx δ h1
abbrev aQ(m:Me):Ms:=λδ h=>(Zk h).fl λp h1=>.rt p h1
abbrev bE(t:Ev->PH->X7 0)(a b:Ms):Ms:=λδ h=>(t δ h).fl λc h1=>match c with
 |true=>a δ h1
 |false=>b δ h1
def PL:αn [] bP:=λc=>G6.imp λD y H h=>by let(x,z,h,(R),r,p):=h;show p.nx R r
def PM{r:Fl}{b:Ms}{D:Ends}(h:Y9 (match r with|.nx δ1 h1=>b δ1 h1|r=>r) D):Y9 r { D with nx:=rdS C b D}:=by
 cases r with
 |nx y z=>exact λw s u p t v R=>I3c w y z v R (δP h)
 |rt p z=>exact h
 |bk y z=>exact h
 |ct y z=>exact h
 |exc x z=>exact h
 |bad=>exact h
def MR{rest:k_ ko}{a:Ms}{b:Ms}(h1:XZ st a)(h2:αn rest b):αn (st::rest) (aF a b):=λc=>(IU (h1 c)<|h2 c).imp λD x H h=>by let(y,z,h,(R),r,p):=h;show I3c y z h R r<|PM p
def PN{a:Ms}(h1:XZ st a):αn [st] a:=λc=>BY<|h1 c
def Sf:XZ (.Continue pos) MQ:=λc=>CS.imp λD z H h=>by let(y,x,h,(R),r,p):=h;show p y z H vt (δO 0) R r
def Sg(z:X.N.Nodup)(y:n_ e m)(hi:wP (X.N[i]?=a8 x) zn)(w:wP (ZP x) wf)(s:wP (Xs e (a8<|.Name x pos') pos.line X.env=αQ 0) zn)(f:wP (X.fn x=true\/A6 0=a8 .local) wl):XZ (.Assign [.Name x pos'] e pos) (aT i m):=λc=>(IW z hi w (y c) s f).imp λD d H h=>by refine E3c h λn o h u E p=>?_;refine I3c n o h u E<|(ζr 0).imp ?_;refine λv j z8=>εj 0 λl x g P t r R q=>?_;show q.nx r<|(E.mono P t).set R i
def Sh{t:Mg}(s:n_ e m)(g:δQ X tg t)(S:wP (swapsWithSole [tg] e pos.line X.env=αQ 0) zn)(W:wP (swappedStores [tg] e X.env=pure a9) zn)(h1:wP ((Wq [tg] X.env).map (·.2)=[assign tg X.env]) zn):XZ (.Assign [tg] e pos) (qR m t):=λc=>(OV (s c) (g c) S W h1).imp λD i H h=>by
 let(l,z,h,(o),u,p):=h;show I3c l z h o u<|(ζr 0).imp ?_;show λv j z8=>εj 0 λw x h1 P T r V q=>?_;cases E:t x z with
 |none=>rw[E]at q;show q.elim
 |some y=>rw[E]at q;show I5e w z h1 x y r (u.mono P T) V E λn R=>q.nx r R
def Si(E:n_ e m)(s:wP (Xs e a9 pos.line X.env=αQ 0) zn):XZ (.Expr e pos) (dY m):=λc=>(LY (E c) s).imp λD l H h=>by let(w,y,h,(z),R,p):=h;show I3c w y h z R<|(ζr 0).imp ?_;show λv o z8=>εj 0 λu x n P t r V q=>?_;show q.nx r<|R.mono P t
def Sj(E:n_ e m):XZ (.Return (a8 e) pos) (aQ m):=λc=>(OT<|E c).imp λD n H h=>by let(u,w,h,(y),z,p):=h;show I3c u w h y z<|(ζr 0).imp ?_;show λv s z8=>εj 0 λt x o P T r R q=>?_;show q.rt r R
variable{as:k_ ko}{ij:j_}
def UB{a:Ms}{b:Ms}{bs:k_ ko}{t:Ev->PH->X7 0}(w:Zo ij t)(A:αn as a)(hb:αn bs b):XZ (.If ij as bs pos) (bE t a b):=λc=>(Oa (w c) (A c)<|hb c).imp λD o H h=>by
 let(u,y,h,(v),R,p):=h;show I3c u y h v R<|(cB.fl p).imp ?_;show λd s z6=>E2d z6 λz x P T r q=>?_;cases d with
 |true=>exact D3<|I3c z y x r (αA T) q
 |false=>exact CZ<|I3c z y x r (αA T) q
structure Wk where
 xs:k_ PV
 g:PH->Bool
abbrev Ih(C:MC)(J:It)(w:Wk)(φ0:k_ h_)(H0:Hp):Prop:=∀φ H h,φ0<+:φ->Kp H0 H->p7 h->w.g h=true->∀i:Nat,
 (i<w.xs.l->J.go i H/\∀x H',J.yld i H x H'->(∃p,w.xs[i]?=a8 p/\RV C φ H' p x)/\XT H'/\YG φ H' h)/\(w.xs.l<=i->ε2 H)
@[reducible]def Mi:=Ev->PH->Rs Wk
abbrev fJ(C:MC)(φ:k_ h_)(H:Hp)(r:Rs Wk)(R:It->Hp->Prop):Prop:=match r with
 |.ok w h=>∀φ' H' J,φ<+:φ'->XT H'->N_ h->ζs φ' H'->R J H'
 |.exc x h=>∀φ' H',φ<+:φ'->XT H'->N_ h->αZ x
 |.bad=>False
abbrev rdI(C:MC)(m:Mi):TI:=λσ H R=>∃φ δ h,p7 h/\F_ 0/\αo (Zk h) R
abbrev SI(C:MC)(k:Nat)(X:Cx)(tg iter:j_)(m:Mi):Prop:=A1 X->Zw (rdI C m)
abbrev tT(n:Nat)(xs:E_ 0)(h':PH):Bool:=match aJ h' n with
 |some ys=>PV.beqs ys xs
 |none=>false
abbrev ofSeq(x:PV)(h:PH):Rs Wk:=match x with
 |.tup xs=>.ok ⟨xs,λ_=>true⟩ h
 |.ref n=>match Ym n with
  |some xs=>.ok ⟨xs,tT n xs⟩ h
  |none=>.bad
 |.fl xs=>.ok ⟨xs,λ_=>true⟩ h
 |_=>.bad
abbrev bB(m:Me):Mi:=λδ h=>(Zk h).bind ofSeq
def Sk(h:n_ iter m):YO (bB m):=λc=>by
 show λD s σ H R I z6=>E3c z6 λJ δ hh rh re p=>?_;let R:rd C m σ H λv t=>∃u x f,J<+:u/\XT t/\YG u t f/\RV C u t x v/\fJ C u t (ofSeq x f) R:=by
  show I3c J δ hh rh re ?_;unfold bB at p;cases e:Zk hh with
  |ok x f=>
   rw[e]at p;show λs v I F t' j0 ux=>I3e s x f F t' j0 ux ?_;let N:fJ C J H (ofSeq x f) R:=p;cases E:ofSeq x f with
   |ok w O=>rw[E]at N;show λl U J P T=>N l U J (F.trans P) (t'.trans T)
   |exc z O=>rw[E]at N;show λl U P T=>N l U (F.trans P) (t'.trans T)
   |bad=>rw[E]at N;show N
  |exc x f=>rw[e]at p;show p
  |bad=>rw[e]at p;show p
 show thn (h c D s σ H _ I R) λv Y w0=>?_;let(x,t,j,r1,u,x',f,p1,t1,Z,W,Q):=w0;unfold ofSeq at Q;cases x' with
 |tup xs=>
  let(a,V,rfl,S,A):=W;cases r1
  rw[<-c.K]at S;let(F,rv,p,hz):=j.tuple S;show wpAny_pyIter_tuple (p) <|⟨Y.heap.objs.size,[Y.heap.objs.size],_,_,t,rfl,j.kept λb o e=>X4 e,Ex a _,(βw (YU rfl) rfl rfl),λb B=>?_,?_⟩
  ·let e:b=Y.heap.objs.size:=by simpa using B
   subst e;show j.fpOk (vk _)<|j.hok.fresh<|vk _
  ·show Q u t (Itt X.K a) vt (Kp.refl t) Z λl U O P T r _ i=>⟨λg=>?_,λg=>⟨V,T.sq S,by rw[<-A.length];show g⟩⟩;let d:i<V.l:=by rw[<-A.length];show g
   show((I2b V (V[i]) (T.sq S)<|by simp[d]),λx I y=>?_);let(e,y):=y;subst e;let(w,E,q):=A.get<|y V<|T.sq S;show(⟨w,E,q.mono P T⟩,γd 0,r)
 |ref n=>
  let(a,rfl,ha):=W;subst r1;dsimp only at Q;cases e:aJ f n with
  |none=>rw[e]at Q;show Q.elim
  |some xs=>
   rw[e]at Q;let(a2,V,(M),S,A):=bZ Z e;rw[ha]at M;cases M;let(F,(rv),p,hz):=(j.list (by rw[c.K];show S));show wpAny_pyIter_list p.isList <|⟨Y.heap.objs.size,[Y.heap.objs.size],_,_,t,rfl,j.kept λb o e=>X4 e,Bb a _,(βw (YU rfl) rfl rfl),λb B=>?_,?_⟩
   ·let e:b=Y.heap.objs.size:=by simpa using B
    subst e;show j.fpOk (vk _)<|j.hok.fresh<|vk _
   ·show Q u t (Itl X.K a) vt (Kp.refl t) Z λl U O P T r G i=>?_;let G:(match aJ O n with|some ys=>PV.beqs ys xs|none=>false)=true:=G
    cases E:aJ O n with
    |none=>rw[E]at G;exists G
    |some ys=>
     rw[E]at G;let tf:=PV.beqs_eq G;subst tf;let(a3,z,(L),D,ru):=bZ r E;rw[dG P ha]at L;exists L;rw[<-c.K]at D;show(λg=>?_,λg=>⟨z,D,by rw[<-ru.length];show g⟩);let d:i<z.l:=by rw[<-ru.length];show g
     show((I2b z (z[i]) D<|by simp),λx I y=>?_);let(e,y):=y;subst e;let(w,E,q):=ru.get<|y z D;show(⟨w,E,q⟩,γd 0,r)
 |fl xs=>
  let(a,V,rfl,S,A):=W;cases r1
  rw[<-c.K]at S;let(F,rv,p,hz):=j.list S.sq;show wpAny_pyIter_list p.isList <|⟨Y.heap.objs.size,[Y.heap.objs.size],_,_,t,rfl,j.kept λb o e=>X4 e,Bb a _,(βw (YU rfl) rfl rfl),λb B=>?_,?_⟩
  ·let e:b=Y.heap.objs.size:=by simpa using B
   subst e;show j.fpOk (vk _)<|j.hok.fresh<|vk _
  ·show Q u t (Itl X.K a) vt (Kp.refl t) Z λl U O P T r _ i=>⟨λg=>?_,λg=>⟨V,(T.sf S).sq,by rw[<-A.length];show g⟩⟩;let d:i<V.l:=by rw[<-A.length];show g
   show(⟨V,V[i],(T.sf S).sq,by simp[d]⟩,λx I y=>?_);let(e,y):=y;subst e;let(w,E,q):=A.get<|y V (T.sf S).sq;show(⟨w,E,q.mono P T⟩,γd 0,r)
 |_=>exact Q.elim
abbrev upTo(lo:Int):Nat->E_ 0
 |0=>[]
 |n+1=>.int lo::upTo (lo+1) n
def gO:∀(n)(l),(upTo l n).length=n
 |0,_=>rfl
 |n+1,l=>by simp[upTo,gO n]
def zF:∀(n)(l)(i),i<n->(upTo l n)[i]?=b0 (l+i)
 |0,_,_,h=>by omega
 |n+1,l,0,_=>by simp[upTo]
 |n+1,l,i+1,h=>by
  simp[upTo];rw[zF n _ i ⋯];congr 2;omega
open Classical in
abbrev Gn:E_ 0->PH->Rs Wk:=λxs h=>match xs with
 |[.int j]=>if -(2 ^ 62)<=j/\j<2 ^ 62 then .ok ⟨upTo 0 j.toNat,λ_=>true⟩ h else .bad
 |_=>.bad
abbrev tU(ms:Ma):Mi:=λδ h=>(Yh h).bind Gn
def PP(lo)(n)(z)(H):Ih C (Itr lo n) ⟨upTo lo n,λ_=>true⟩ z H:=λw u t p T r _ i=>by
 show(λI=>?_,λI=>?_)
 ·let h:i<n:=by rw[<-gO n lo];show I
  show(h,λx v y=>?_);let(e,y):=y;subst e y;show((I1b (.int _) (zF n lo i h) rfl),γd 0,r)
 ·have:=I;rw[gO]at this;show this
def postA.bindI{f:E_ 0->PH->Rs Wk}{R:It->Hp->Prop}(h:αo (γP 0) R):Yz r λi u=>∃y S m,φ<+:y/\XT u/\YG y u m/\βU y u S i/\fJ C y u (f S m) R:=by
 cases r with
 |ok a t=>
  show λn v g P T j V=>I3e n a t P T j V ?_;let p:αo (f a t) R:=h;cases e:f a t with
  |ok w l=>rw[e]at p;show λx s J q o=>p x s J (P.trans q) (T.trans o)
  |exc z l=>rw[e]at p;show λx s q o=>p x s (P.trans q) (T.trans o)
  |bad=>rw[e]at p;show p
 |exc a t=>exact h
 |bad=>exact h
def PI.imp{t t':TI}(h:Zw t)(i:∀z H R,t' z H R->t z H R):Zw t':=λp s z H R I q=>Zx R I<|i z H R q
open H in
def PQ{x:j_}{p:Pos}(a:YN [x] ms)(hb:wP (("range" : Str)∈C.bs) xL)(g:wP (Zu "range" ) zn)(s:wP (wj [x] X.env=[(false,eval x X.env)]) zn):SI C k X tg (.Call (.Name "range" p) [x] [] pos) (tU ms):=λc=>
 (pr1 g (c.bn _ hb) (a c) s).imp λl H R h=>by
  let(o,t,h,(w),e,p):=h;show I3c o t h w e<|(postA.bindI p).imp ?_;show λS y z8=>εj 0 λz m n P T r V q=>?_;unfold Gn at q;split at q
  ·let(v,rfl,u):=V.one;subst u;rename_i j;by_cases J:-(2 ^ 62)<=j/\j<2 ^ 62
   ·rw[if_pos J]at q;show(J,q z y _ vt (γd 0) r<|PP 0 _ z y)
   ·rw[if_neg J]at q;show q.elim
  ·show q.elim
abbrev jS(g:PH->Bool)(tg:Mg)(body:Ms):E_ 0->Ev->PH->Fl
 |[],δ,h=>if g h=true then .nx δ h else .bad
 |x::xs,δ,h=>if g h=true then(match tg x δ with
  |none=>.bad
  |some δ1=>match body δ1 h with
   |.nx δ2 h2=>αB xs δ2 h2
   |.ct δ2 h2=>αB xs δ2 h2
   |.bk δ2 h2=>.nx δ2 h2
   |r=>r) else .bad
abbrev gP(mi:Mi)(tg:Mg)(body:Ms):Ms:=λδ h=>(mi δ h).fl λw h1=>β1 w.xs δ h1
def fJ.fl{r:Rs Wk}{f:Wk->PH->Fl}{D:Ends}(h:Y9 (r.fl f) D):αo r λJ y=>∃z w u,φ<+:z/\XT y/\YG z y u/\ζs z y/\bY C z y (f w u) D:=by
 cases r with
 |ok a v=>exact λx s J p t R W=>I3e x a v p t R W (δP h)
 |exc a v=>exact h
 |bad=>exact h
def fJ.imp{r:Rs Wk}{Q Q':It->Hp->Prop}(h:αo r Q)(i:∀v z,Q v z->Q' v z):αo r Q':=by
 cases r with
 |ok a x=>exact λy z J p t R w=>i J z (h y z J p t R w)
 |exc a x=>exact h
 |bad=>exact h
def drop_cons{α:Type}{xs:k_ α}{p:α}(h:xs[i]?=a8 p):xs.drop i=p::xs.drop (i+1):=by let(H,z):=vg.mp h;rw[List.drop_eq_getElem_cons H,z]
variable{H0:Hp}{J:It}{φ0:k_ h_}
def MS{w:Wk}{tg:Mg}{body:Ms}{D:Ends}{σ:St}(F:ζs φ0 H0)(f:YG φ0 H0 h)(E:RE C φ0 H0 δ σ)(p:bY C φ0 H0 (β1 w.xs δ h) D):
  ∃W:Nat->Nat->St->Hp->Prop,(∃m,W 0 m σ H0)/\∀i m σ H,W i m σ H->
   (ε2 H/\β4 H)\/(J.go i H/\∃N,(∀t u,N t u->∃I,I<m/\W (i+1) I t u)/\∀x u,J.yld i H x u->rdG C tg x σ u λc B=>rdS C body { D with nx:=N,ct:=N,bk:=D.nx} c B):=by
 show⟨λi m σ H=>m=w.xs.l-i/\i<=w.xs.l/\∃v δ h,φ0<+:v/\Kp H0 H/\YG v H h/\RE C v H δ σ/\bY C v H (β1 (w.xs.drop i) δ h) D,
  ⟨w.xs.length,by simp,w6 _,φ0,δ,h,vt,γd 0,f,E,by rw[List.drop_zero];show p⟩,?_⟩
 rintro i m σ H ⟨rfl,hi,v,δ,h,a,Y,f,E,p⟩;by_cases l:i<w.xs.l
 ·let hd:w.xs.drop i=w.xs[i]::w.xs.drop _:=drop_cons (by simp);rw[hd]at p;unfold jS at p;by_cases G:w.g h=true
  ·rw[if_pos G]at p;let(k,S):=(F v H h a Y f G i).1 l;show .inr ⟨k,λt u=>∃v δ h,φ0<+:v/\Kp H0 u/\YG v u h/\RE C v u δ t/\bY C v u (β1 (w.xs.drop _) δ h) D,λt u z0=>E3a z0 λL O X q=>⟨w.xs.l-(i+1),Nat.sub_lt_sub_left l<|VY i,rfl,l,L,O,X,q⟩,λx u y=>?_⟩;let((q,K,rv),Z,d):=S x u y;let Q:w.xs[i]=q:=by simp_all
   rw[Q]at p;cases V:tg q δ with
   |none=>rw[V]at p;show p.elim
   |some o=>
    rw[V]at p;dsimp only at p;show(v,δ,h,q,o,d,E.mono vt Z,rv,V,λc U=>(I3c v o h d U ?_));let p:=bY.weak vt Z p;cases b:body o h with
    |nx s j=>rw[b]at p;show λn M A P T R r=>⟨n,s,j,a.trans P,(Y.trans Z).trans T,R,r,δR p⟩
    |ct s j=>rw[b]at p;show λn M A P T R r=>⟨n,s,j,a.trans P,(Y.trans Z).trans T,R,r,δR p⟩
    |bk s j=>rw[b]at p;show p
    |rt z j=>rw[b]at p;show p
    |exc z j=>rw[b]at p;show p
    |bad=>rw[b]at p;show p
  ·rw[if_neg G]at p;show p.elim
 ·let e:=VH hi<|Nat.le_of_not_lt l;subst e;rw[List.drop_length]at p;unfold jS at p;by_cases G:w.g h=true
  ·rw[if_pos G]at p;show .inl ⟨(F v H h a Y f G _).2<|vk _,p.nx f E⟩
  ·rw[if_neg G]at p;show p.elim
variable{body:k_ ko}{mi:Mi}
def Sl{t:Mg}{mb:Ms}(hi:YO mi)(g:δQ X tg t)(hb:αn body mb)(P:wP (PassesOwn (c3 X) X.A X.env X.xe) wp)(s:wP (∀x,Yn x=pure x) kt):XZ (.For tg iter body [] pos) (gP mi t mb):=λc=>(OX P c.calm (hi c) (g c) (hb c) s).imp λD m H h=>by let(v,y,h,(R),e,p):=h;show I3c v y h R e<|(fJ.fl p).imp ?_;show λJ o z8=>εj 0 λu w n z T r W q=>?_;show MS W r (e.mono z T) q
abbrev Dq(t:Ev->PH->X7 0)(body:Ms):Nat->Ev->PH->Fl
 |0,_,_=>.bad
 |n+1,δ,h=>(t δ h).fl λb h1=>match b with
  |false=>.nx δ h1
  |true=>match body δ h1 with
   |.nx δ2 h2=>Dq t body n δ2 h2
   |.ct δ2 h2=>Dq t body n δ2 h2
   |.bk δ2 h2=>.nx δ2 h2
   |r=>r
abbrev vA(n:Nat)(t:Ev->PH->X7 0)(body:Ms):Ms:=Dq t body n
def MT{t:Ev->PH->X7 0}{mb:Ms}(W:Zo ij t)(hb:αn body mb)(V:wP (PassesOwn (c3 X) X.A X.env X.xe) wp):XZ (.While ij body [] pos) (vA n t mb):=λc=>
 (IX V (W c)<|hb c).imp λD i H h=>by
  show(λm i H=>∃v y h,YG v H h/\RE C v H y i/\bY C v H (Dq t mb m y h) D,⟨n,h⟩,?_);show λm i H z7=>E3c z7 λv y h U E p=>?_;cases m with
  |zero=>exact p.elim
  |succ m=>
   show I3c v y h U E<|(cB.fl p).imp ?_;show λb S z6=>E2d z6 λf d a Z o Q=>?_;cases b with
   |false=>exact CZ<|Q.nx o<|E.mono a Z
   |true=>
    show D3 ⟨λl j=>∃v y h,YG v j h/\RE C v j y l/\bY C v j _ D,λl j q=>(I1b m (VY m) q),f,y,d,o,E.mono a Z,?_⟩;dsimp only at Q;cases e:mb y d with
    |nx x s=>rw[e]at Q;show λu g Y P T R r=>⟨u,x,s,R,r,δR Q⟩
    |ct x s=>rw[e]at Q;show λu g Y P T R r=>⟨u,x,s,R,r,δR Q⟩
    |bk x s=>rw[e]at Q;show Q
    |rt z s=>rw[e]at Q;show Q
    |exc z s=>rw[e]at Q;show Q
    |bad=>rw[e]at Q;show Q
variable{C:MC}{k:Nat}{X:Cx}
abbrev eE(js:k_ (l7 Nat))(δ:Ev):Ev:=js.map λo=>match o with
 |none=>a9
 |some j=>Cd δ j
def Gp:∀{σ:St}{i:Nat}{v:V},σ[i]?=a8 (a8 v)->EJ σ i=a8 v
 |[],_,_,h=>by simp at h
 |x::_,0,v,h=>by
  have:x=a8 v:=by simpa using h
  show this
 |_::r,n+1,v,h=>Gp (σ:=r) (d0 h)
def RE.cap{σ:St}(r:F_ 0)(js):γA (γe 0) (β7 0):=by
 show(by simp[eE,oB],λi p e=>?_);unfold eE at e;unfold oB;rw[wm]at e⊢;cases q:js[i]? with
 |none=>rw[q]at e;exists e
 |some o=>
  rw[q]at e;cases o with
  |none=>cases e
  |some j=>show E1b (r.2 j p<|zD<|wu e) λv h R=>?_;show εC (by change a8 (EJ σ j)=_;rw[Gp h]) R
abbrev oJ(g:PH->Bool)(tg:Mg)(tst:Ev->PH->X7 0)(elt:Me)(δ0:Ev)(n:Nat):E_ 0->PH->Yv 0
 |[],h=>if g h=true then .ok (.ref n) h else .bad
 |x::xs,h=>if g h=true then(match tg x δ0 with
  |none=>.bad
  |some δ1=>(tst δ1 h).bind λb h1=>match b with
   |false=>oJ g tg tst elt δ0 n xs h1
   |true=>(elt δ1 h1).bind λp h2=>match cD h2 n with
    |some ys=>if ys.l<wa then oJ g tg tst elt δ0 n xs (h2.set n<|.lst<|ys++[p]) else .bad
    |none=>.bad) else .bad
abbrev bK(js:k_ (l7 Nat))(mi:Mi)(tg:Mg)(tst:Ev->PH->X7 0)(elt:Me):Me:=λδ h=>(mi δ h).bind λw h1=>αP (γe 0) h1.l w.xs<|h1++[.lst []]
abbrev dU:Ev->PH->X7 0:=λ_ h=>.ok true h
abbrev STs(C:MC)(k:Nat)(X:Cx)(es:k_ j_)(m:Ev->PH->X7 0):Prop:=A1 X->PTs X es (rdB C m)
def PR:ζt X [] dU:=λc i s z H Q I h=>by let(x,y,h,(r),e,p):=h;show Mu i s z H Q I<|p.val r
def PU{m:Ev->PH->X7 0}(h:Zo e m):ζt X [e] m:=λc=>Mv<|h c
def fJ.bind{r:Rs Wk}{f:Wk->PH->Yv 0}{Q:VK}(h:v_ (γP 0) Q):αo r λJ y=>∃z w u,φ<+:z/\XT y/\YG z y u/\ζs z y/\ZG z y (f w u) Q:=by
 cases r with
 |ok a v=>exact λx s J p t R W=>I3e x a v p t R W (α0 h)
 |exc a v=>exact h
 |bad=>exact h
variable{elt:Me}{tst:Ev->PH->X7 0}
def JG{w:Wk}{tg:Mg}{Q:VK}{σ:St}(A:ζs φ0 H0)(y:YG φ0 H0 h)(re:RE C φ0 H0 δ σ)(p:ZG φ0 H0 (αP (γe 0) h.l w.xs<|h++[.lst []]) Q)(a:h_)(c:H0 a=a9):
  ∃W:Nat->Nat->Hp->Prop,(∃m,W 0 m<|upd H0 a<|.lst [])/\∀i m d,W i m d->
   (ε2 d/\Q (.ref a) d)\/(J.go i d/\∃N,(∀s,N s->∃D,D<m/\W (i+1) D s)/\∀x b,J.yld i d x b->Og js (rdG C tg) (rdB C tst) (rd C elt) σ a x b N):=by
 let n:(φ0++[a])[h.length]?=a8 a:=by rw[<-y.len];simp
 show⟨λi m H=>m=w.xs.l-i/\i<=w.xs.l/\∃t u,(φ0++[a])<+:t/\Kp H0 H/\YG t H u/\ZG t H (αP (γe 0) h.l (w.xs.drop i) u) Q,
  ⟨w.xs.length,by simp,w6 _,φ0++[a],h++[.lst []],vt,Kp.new c,y.new (o:=.lst []) c (I1b [] aL trivial),by rw[List.drop_zero];show post.weak (ζn _) (Kp.new c) p⟩,?_⟩
 rintro i m H ⟨rfl,hi,t,u,V,M,r,p⟩;let P:=(ζn _).trans V;by_cases l:i<w.xs.l
 ·let hd:w.xs.drop i=w.xs[i]::w.xs.drop (i+1):=drop_cons (by simp);rw[hd]at p;unfold oJ at p;by_cases G:w.g u=true
  ·rw[if_pos G]at p;let(go,E):=(A t H u P M r G i).1 l;show .inr ⟨go,λs=>∃t u,(φ0++[a])<+:t/\Kp H0 s/\YG t s u/\ZG t s (αP (γe 0) h.l _ u) Q,λs z0=>E2a z0 λA u q=>⟨w.xs.l-(i+1),Nat.sub_lt_sub_left l<|VY i,rfl,l,A,u,q⟩,λx s y=>?_⟩;let((q,eq,rv),I,U):=E x s y;let D:w.xs[i]=q:=by simp_all
   rw[D]at p;cases B:tg q (γe 0) with
   |none=>rw[B]at p;show p.elim
   |some j=>
    rw[B]at p;show(t,γe 0,u,q,j,U,((re.mono P<|M.trans I).cap js),rv,B,λσ2 R=>(I3c t j u U R<|(cB.bind<|post.weak vt I p).imp ?_));show λb H5 z6=>E2d z6 λL v K X T z=>?_;cases b with
    |false=>exact CZ<|I2d L v (V.trans K) ((M.trans I).trans X) T z
    |true=>
     show D3<|I3c L j v T (R.mono K X)<|(post.bind z).imp ?_;show λv H6 z8=>εj 0 λE z e p6 t6 S k f=>?_;cases F:cD e h.l with
     |none=>rw[F]at f;show f.elim
     |some ys=>
      rw[F]at f;let(hz,f):=f.ite;let Y:=dG ((V.trans K).trans p6) n;let(vs,(Z),O):=S.at' h.l a _ Y (gL F);show⟨vs,Z,by rw[<-O.length];show hz,E,e.set h.l (.lst (ys++[z])),(V.trans K).trans p6,(((M.trans I).trans X).trans t6).trans (Kp.lst Z),
       S.write Y (by rw[Z];trivial) (I1b (vs++[v]) aL ((O.snoc k).mono vt (Kp.lst Z))),post.weak vt (Kp.lst Z) f⟩
  ·rw[if_neg G]at p;show p.elim
 ·let e:=VH hi<|Nat.le_of_not_lt l;subst e;rw[List.drop_length]at p;unfold oJ at p;by_cases G:w.g u=true
  ·rw[if_pos G]at p;show .inl ⟨(A t H u P M r G _).2<|vk _,βB<|I1b a rfl<|dG V n⟩
  ·rw[if_neg G]at p;show p.elim
def Gq{tg:Mg}{σ:St}{Q:VK}(h:rd C (δt tg tst elt) σ H Q):D6 js (rdI C mi) (rdG C tg) (rdB C tst) (rd C elt) σ H Q:=by let(y,z,h,(R),e,p):=h;show I3c y z h R e<|(fJ.bind p).imp ?_;show λJ v z8=>εj 0 λx w u P t r W q=>?_;show λc a=>JG W r (e.mono P t) q c a
def PY{elt:j_}{g:Mg}{tt:Ev->PH->X7 0}(E:X.env.scope=os)(e:X.N=oN)(o:Zn N js=true)(hi:YO mi)(G:∀y f S z,δQ (βR z) tg g)(t:∀y f S z,ζt (βR z) ifs tt)(w:∀y f S z,SE C k (βR z) elt me)(v:wP (∀x,Yn x=pure x) kt):n_ (.ListComp elt [⟨tg,iter,ifs,0⟩] sc pos) (δt g tt me):=λc=>(Mw c.calm E e o (hi c) (λa b s H=>G a b s H<|c.comp sc N a b s H) (λa b s H=>t a b s H<|c.comp sc N a b s H) (λa b s H=>w a b s H<|c.comp sc N a b s H) v).imp λu H Q h=>Gq h
def Ii{elt:j_}{g:Mg}{tt:Ev->PH->X7 0}(q:X.N.Nodup)(u:X.N[i]?=a8 x)(l:A6 0=a8 .local)(E:X.env.scope=os)(e:X.N=oN)(O:Zn N js=true)(hi:YO mi)(G:∀y f S z,δQ (βR z) tg g)(T:∀y f S z,ζt (βR z) ifs tt)(o:∀y f S z,SE C k (βR z) elt me)(w:wP (Xs (.ListComp elt [⟨tg,iter,ifs,0⟩] sc pos) (a8<|.Name x pos') bq.line X.env=pure true) zn)(n:wP (∀x,Yn x=pure x) kt):XZ (.Assign [.Name x pos'] (.ListComp elt [⟨tg,iter,ifs,0⟩] sc pos) bq) (aT i<|bK js mi g tt me):=λc=>(EL q u l c.calm E e O (hi c) (λa b s H=>G a b s H<|c.comp sc N a b s H) (λa b s H=>T a b s H<|c.comp sc N a b s H) (λa b s H=>o a b s H<|c.comp sc N a b s H) w n).imp λD U H h=>by let(Z,d,h,(m),t,p):=h;show Gq<|I3c Z d h m t<|(ζr 0).imp ?_;show λv W z8=>εj 0 λY x V P j r R Q=>?_;show Q.nx r<|(t.mono P j).set R i
abbrev mFn(N:Nat)(body:Ms):Fn:=λargs h=>match body (args.map a8++Vj (N-args.l) a9) h with
 |.nx _ h'=>.ok .non h'
 |.rt p h'=>.ok p h'
 |.exc x h'=>.exc x h'
 |_=>.bad
def RE.start{ps:E_ 0}{vs:k_ V}(r:p5 ps vs)(N):γA (ps.map a8++Vj (N.l-ps.l) a9) (start N vs):=by
 unfold _L.start;show(by simp[r.length],λi p e=>?_);by_cases h:i<ps.l
 ·rw[ya<|d0 h,wm]at e;rw[ya<|by simpa[<-r.length] using h,wm]
  cases q:ps[i]? with
  |none=>rw[q]at e;exists e
  |some x=>
   rw[q]at e;cases e
   let(v,z,R):=r.at q;show εC (by rw[z];rfl) R
 ·rw[zi<|d0 h]at e;rw[List.getElem?_replicate]at e;split at e
  ·cases e
  ·exists e
def Oo{f:h_}{body:Ms}(X:∀u H x,¬ C.ex u H x)(b:∀x∈C.bs,mg x=a9)(F:Fun C.K x qual st f fd)(S:ε7 (aM st))(hb:∀(c)(A)(o)(s)(H)(E),SSs C k (mL CX0 P C.w C.K mg base N qual (aM st) f c A o s H E).nox (bV st) body):
  cX P C.w C.K mg base CX0 (k+1) f fd ps (βV ps.l<|mFn N.l body):=by
 show F.ok S (λV H Q E h=>?_)<|λc A o s H V Q E i h=>?_
 ·let(u,h,n,(m),R,l,_):=h;rw[<-R.length];show l
 ·let(u,h,n,(m),R,l,p):=h;show(_,hb c A o s H E ⟨rfl,rfl,i,b,rfl⟩,u,n.map a8++Vj _ a9,h,m,RE.start R N,?_);unfold mFn at p;cases e:body (n.map a8++Vj _ a9) h with
  |nx j v=>rw[e]at p;show λy d t q T r g=>p y .non t q T r rfl
  |rt z v=>rw[e]at p;show p
  |exc z v=>rw[e]at p;show λy t q T r=>(βg _<|p y t q T r).elim
  |bk j v=>rw[e]at p;show p.elim
  |ct j v=>rw[e]at p;show p.elim
  |bad=>rw[e]at p;show p.elim
def PZ{f:Fn}{Q:VK}{E:XK}(O:Jc H)(u:γc (ZF 0))(F:∃h,f [.fl<|ns.map PV.int] []=.ok (.bl true) h)(w:∀y,Q (.bl true) y):βV 1 f [.ref a] H Q E:=by
 let r:∀ns:YV 0,βU [] H (ζu 0) (ZF 0):=by
  intro ns
  induction ns with
  |nil=>trivial
  |cons n ns i=>exact⟨rfl,i⟩
 let s:SqF C.K H a (ZF 0):=by
  rcases u with(h|⟨o,h⟩)|h
  ·rcases O a with z|⟨o,X,z⟩
   ·rw[z]at h;exists h
   ·rw[z]at h;cases h
  ·show .inl ⟨o,h⟩
  ·show .inr h
 show([],[],[.fl<|ns.map _],⟨rfl,by simp,λn b B x q=>by simp at x⟩,⟨(I2c a _ rfl s<|r ns),trivial⟩,rfl,?_);let(h,e):=F;rw[e];intro t v y _ _ _ R;subst R;show w y
variable{C:MC}{k:Nat}{X:Cx}
abbrev tyN(x:PV)(h:PH):l7 String:=match x with
 |.non=>a8 "NoneType"
 |.bl _=>a8 "bool"
 |.int _=>a8 "int"
 |.str _=>a8 "str"
 |.tup _=>a8 "tuple"
 |.fl _=>a8 "list"
 |.ref n=>match h[n]? with
  |some (.lst _)=>a8 "list"
  |some (.dK _)=>a8 "dict"
  |_=>a9
 |.ty _=>a9
abbrev oK(t c:String):Bool:=t == c || (t == "bool" && c == "int")
abbrev known:k_ String:=["int","str","bool","list","tuple","dict"]
variable{c:String}
def Q2{t:String}(H:t∈"NoneType" :: known)(h:c∈known):Vo K (.type t) (.type c)=a8 (oK t c):=by simp[known]at H h;rcases H with rfl|rfl|rfl|rfl|rfl|rfl|rfl <;> rcases h with rfl|rfl|rfl|rfl|rfl|rfl <;> rfl
abbrev B5:E_ 0->PH->Yv 0:=λxs h=>match xs with
 |[x,.ty c]=>match tyN x h with
  |some t=>if c∈known then .ok (.bl<|oK t c) h else .bad
  |none=>.bad
 |_=>.bad
def JH(l:X.K=C.K):δA (.builtin "isinstance") (λm H Q=>∃x c t b,m=[x,.ty c]/\(uT C.K H x (.type t)\/(∃a V,x=.ref a/\SqT C.K H a V/\t="tuple")\/(∃a V,x=.ref a/\γc V/\t="list"))/\Vo C.K (.type t) (.type c)=a8 b/\Q (.bl b) H):=by
 show λP s g H m U Q I r z9=>E4d z9 λx c t b z1 y e q=>?_;subst z1;let(u,v,(z0),R,j):=vals2 r;subst z0;subst j;rw[<-l]at e y;rcases y with y|⟨a,V,rfl,S,rfl⟩|⟨a,V,rfl,S,rfl⟩
 ·show Hu I R y e λT=>I2c (.bl b) H (I.tok T) rfl q
 ·cases R
  let(i,_,(o,w,p,_),_):=I.tuple S;show δB (ZX w p) e (λz=>nomatch z) λT=>I2c (.bl b) H (I.tok T) rfl q
 ·cases R
  let(i,_,(o,n,w,p,_),_):=I.list S;show αs (ZX w p) e (λz=>nomatch z) λT=>I2c (.bl b) H (I.tok T) rfl q
open H in
def Ce:Zp (.builtin "isinstance") B5:=λc=>(JH c.K).imp λs H Q h=>by
 let(l,h,P,q,V,p):=h;unfold B5 at p;split at p
 ·rename_i x n;let(v,w,(z0),r,Y):=V.two;subst z0;subst Y;split at p
  ·rename_i t T;let(N,p):=p.ite;let f:∀{t:String},t∈"NoneType" :: known->ZG l H (.ok (.bl<|oK t n) h) Q->Vo C.K _ _=a8 _/\Q (.bl _) H:=λM p=>⟨Q2 M N,p.val q rfl⟩;unfold tyN at T;cases x with
   |non=>cases T;subst r;show α1 rfl (.inl .non) (f (by decide) p)
   |bl b=>cases T;subst r;show α1 rfl (.inl<|.bl _) (f (by decide) p)
   |int b=>cases T;subst r;show α1 rfl (.inl<|.int _) (f (by decide) p)
   |str b=>cases T;subst r;show α1 rfl (.inl<|.str _) (f (by decide) p)
   |tup o=>
    cases T
    let(a,s,rfl,S,R):=r;show(_,n,_,_,rfl,.inr<|.inl<|I2c a s rfl S rfl,f (by decide) p)
   |fl o=>
    cases T
    let(a,s,rfl,S,R):=r;show(_,n,_,_,rfl,.inr<|.inr<|I2c a s rfl S.sq rfl,f (by decide) p)
   |ref m=>
    let(a,rfl,A):=r;dsimp only at T;split at T
    ·rename_i o u;cases T
     let(s,y,R):=q.at' m a _ A u;show α1 rfl (.inl<|.lst y) (f (by decide) p)
    ·rename_i o u;cases T
     let(s,y,R):=q.at' m a _ A u;show α1 rfl (.inl<|.dK y) (f (by decide) p)
    ·exists T
   |ty z=>exists T
  ·show p.elim
 ·show p.elim
abbrev mMt(ty:PV->PH->Bool)(g:PV->E_ 0->PH->Yv 0)(mo:Me)(ms:Ma):Me:=λδ h=>(εF h).bind λx h1=>if ty x h1=true then(Yh h1).bind λps h2=>g x ps h2 else .bad
abbrev hV(ty:PV->PH->Bool)(g:PV->E_ 0->PH->Yv 0)(mo:Me):Me:=λδ h=>(εF h).bind λx h1=>if ty x h1=true then g x [] h1 else .bad
abbrev rM(C:MC)(g:PV->E_ 0->PH->Yv 0):V->k_ V->Hp->VK->Prop:=λx xs H Q=>∃φ h p ps,p7 h/\YW x/\p5 ps xs/\v_ (g p ps h) Q
abbrev MtS(C:MC)(k:Nat)(X:Cx)(T:String)(ty:PV->PH->Bool)(id:String)(g:PV->E_ 0->PH->Yv 0):Prop:=A1 X->δn (rM C g)/\∀φ H h p x,p7 h->YW x->ty p h=true->tyV C.K T x H
variable{ae apos:Pos}{mo:Me}{name:Str}{ty:PV->PH->Bool}
def Sm{o:j_}{id:String}{g:PV->E_ 0->PH->Yv 0}(A:γi 0)(s:αS 0)(t:typeOf (.builtin id)=pure (.type "method_descriptor"))(m:γC T ty id g)(O:n_ o mo)(a:YN (e::es) ms)(b:wP (ZQ (Yl 0)=Yl 0) zn)(f:wP (((Y6 (wj (e::es) X.env)).all (λx=>!x.1)&&(δE (keywordEach [] X.env)).all (λx=>x.1.isSome)
   && decide ((e::es).length+([]:γj 0).length+(if([]:γj 0).isEmpty then 0 else 1)<30))=true) zn)(i:wP ((apos.endLine == ae.line)=true) zn)(S:wP (wj (e::es) X.env=(false,A5 0)::X2 0) zn)(l:wP ((Y6 (X2 0)).any (·.1)=false) zn):
  n_ (.Call (.Attribute o name apos) (e::es) [] ae) (mMt ty g mo ms):=λc=>(Ry A s t (m c).1 (O c) (a c) b f i S l).imp λF H Q h=>by
 let(J,n,h,(U),E,p):=h;show I3c J n h U E<|(αh 0).imp ?_;show λv j z9=>E3e z9 λz x u P N r R q=>?_;let(Z,q):=q.ite;show(by rw[c.K];show(m c).2 z j u x v r R Z,z,n,u,r,E.mono P N,(postA.bind q).imp ?_);show λG I z8=>εj 0 λw L d Y M y V W=>?_;show I4d w d x L y (R.mono Y M) V W
def Oq{o:j_}{id:String}{g:PV->E_ 0->PH->Yv 0}(a:γi 0)(s:αS 0)(t:typeOf (.builtin id)=pure (.type "method_descriptor"))(m:γC T ty id g)(O:n_ o mo)(b:wP (ZQ (Yl 0)=Yl 0) zn)(l:wP ((apos.endLine == ae.line)=true) zn):n_ (.Call (.Attribute o name apos) [] [] ae) (hV ty g mo):=λc=>(Ph a s t (m c).1 (O c) b l).imp λd H Q h=>by let(i,j,h,(n),E,p):=h;show I3c i j h n E<|(αh 0).imp ?_;show λv w z8=>εj 0 λz x y P f r R q=>?_;let(u,q):=q.ite;show(by rw[c.K];show(m c).2 z w y x v r R u,z,y,x,[],r,R,trivial,q)
def MtR.imp{id:String}{r r':V->k_ V->Hp->VK->Prop}(h:δn r)(i:∀x S H Q,r' x S H Q->r x S H Q):δn r':=λp s y H x S v u Q I z R q=>h p s y H x S v u Q I z R<|i x S H Q q
abbrev isL(x:PV)(h:PH):Bool:=match x with
 |.ref n=>(cD h n).isSome
 |_=>false
def Cf{x:V}(r:p7 h)(v:YW x)(e:isL p h=true):tyV C.K "list" x H:=by
 cases p with
 |ref n=>
  let(a,rfl,A):=v;let(S,y):=zd.mp (show(cD h n).isSome=true from e)
  let(s,(z),R):=Z1 A<|gL y;show .inl ⟨rfl,s,SqL.of z⟩
 |_=>exists e
abbrev onL(f:E_ 0->E_ 0->l7 (PV×E_ 0)):PV->E_ 0->PH->Yv 0:=λx ps h=>match x with
 |.ref n=>match cD h n with
  |some xs=>match f xs ps with
   |some (r,ys)=>.ok r (P_<|.lst ys)
   |none=>.bad
  |none=>.bad
 |_=>.bad
def Fd{f:E_ 0->E_ 0->l7 (PV×E_ 0)}{x:V}{xs:k_ V}{Q:VK}(h:rM C (onL f) x xs H Q):∃z l s y S r Z,x=.ref l/\H l=a8 (.lst S)/\βU z H y S/\βU z H s xs/\f y s=a8 (r,Z)/\
  ∀(v:V)(W),RV C z H r v->βU z H Z W->Q v (x_ l<|.lst W):=by
 let(z,h,p,s,R,j,q,o):=h;unfold onL at o;cases p with
 |ref n=>
  let(a,(z0),A):=j;subst z0;dsimp only at o;cases e:cD h n with
  |none=>rw[e]at o;show o.elim
  |some y=>
   rw[e]at o;dsimp only at o;let(S,(u),t):=δS A<|gL e;cases E:f y s with
   |none=>rw[E]at o;show o.elim
   |some i=>rw[E]at o;let(r,Z):=i;show I7f z a s y S r Z rfl u t q E λv W m w=>o.lset R A u w m
 |_=>exact o.elim
abbrev eW:E_ 0->E_ 0->l7 (PV×E_ 0):=λxs ps=>match ps with
 |[p]=>if xs.l<wa then a8 (.non,xs++[p]) else a9
 |_=>a9
abbrev Fe:E_ 0->E_ 0->l7 (PV×E_ 0):=λxs ps=>match ps with
 |[]=>match xs[xs.length-1]? with
  |some p=>a8 (p,xs.dropLast)
  |none=>a9
 |_=>a9
abbrev iW:E_ 0->E_ 0->l7 (PV×E_ 0):=λxs ps=>match ps with
 |[]=>a8 (.non,[])
 |_=>a9
def RVs.dropLast{vs:k_ V}(r:Yx 0):p5 xs.dropLast vs.dropLast:=by rw[List.dropLast_eq_take,List.dropLast_eq_take,r.length];show r.take _
open H in
def Ij:MtR X "list.append" (rM C<|onL eW):=MtR.imp (Bh) λx S H Q h=>by
 let(u,l,p,y,V,r,w,(z0),z,a,s,e,q):=Fd h;subst z0;unfold eW at e;split at e
 ·split at e
  ·rename_i Z;cases e
   let(v,rfl,R):=s.one;show I3e l V v rfl rfl z (by rw[<-a.length];show Z)<|q .non _ rfl<|a.snoc R
  ·exists e
 ·exists e
def JI:γC "list" isL "list.append" (onL eW):=λc=>⟨Ij,λz H h p x r v e=>Cf r v e⟩
open H in
def Q3:MtR X "list.pop" (rM C<|onL Fe):=MtR.imp (Pi) λx s H Q h=>by
 let(u,l,w,Y,S,r,Z,(z0),z,a,R,e,q):=Fd h;subst z0;unfold Fe at e;split at e
 ·split at e
  ·rename_i p P;cases e
   have:s=[]:=by cases s <;> first|rfl|exact R.elim
   subst this;rw[a.length]at P;let(v,(V),y):=a.at P;show I3e l S v rfl rfl z V<|q v _ y a.dropLast
  ·exists e
 ·exists e
def Sn:γC "list" isL "list.pop" (onL Fe):=λc=>⟨Q3,λz H h p x r v e=>Cf r v e⟩
def JJ:MtR X "list.clear" (rM C<|onL iW):=MtR.imp (Jb) λx s H Q h=>by
 let(w,l,p,y,v,r,Z,(z0),z,a,R,e,q):=Fd h;subst z0;unfold iW at e;split at e
 ·cases e
  have:s=[]:=by cases s <;> first|rfl|exact R.elim
  subst this;show I2d l v rfl rfl z<|q .non _ rfl trivial
 ·exists e
def MU:γC "list" isL "list.clear" (onL iW):=λc=>⟨JJ,λz H h p x r v e=>Cf r v e⟩
abbrev So(K:vj):R2:=λx y H Q=>∃a b ys,x=.ref a/\y=.ref b/\Yk a []/\Yk b ys/\Q (.ref b) H
def MV:O_ (Vr .Add) (So X.K):=by
 show λp s W H x y v u Q I g Y z8=>εj 0 λa b Z z0 z1 m B q=>?_;subst z0;subst z1;subst g;subst Y;let(T,(R),P,_):=I.tuple m;let(i,(e),j,_):=I.tuple B;cases R
 let((S,r,A,f),O,z,n,w):=id P;let((L,D,t,l),o,c,N,d):=id j;simp only at z w c d;subst z w c d;show concat_meets ⟨_,O,rfl⟩ ⟨_,o,rfl⟩ noFill_tuple_add seq_tuple_add PySem.F.slot_tuple_add PySem.F.entry_tuple_add (αt _)
   (tuple_addW0 a b ([]:YX 0).toArray _ n N r D f l<|by simp) ⟨O,o,(I2c (.ref b) H I rfl q)⟩
abbrev aU:PV->PV->PH->Yv 0:=λx y h=>match x,y with
 |.tup [],.tup ys=>.ok (.tup ys) h
 |x,y=>Jy x y h
def Q4:M_ (Vr .Add) aU:=λc=>((RT c).or (by have:=MV (X:=X);rw[c.K]at this;show this)).imp λx y H Q h=>by
 let(z,h,p,q,(r),R,Y,o):=h;unfold aU at o;split at o
 ·refine E2c R λa v z1 S A=>?_;subst z1;refine E2c Y λb u z0 s B=>?_;subst z0;have:v=[]:=by cases v <;> first|rfl|exact A.elim
  subst this;show .inr ⟨a,b,u,rfl,rfl,S,s,ζp<|I2c b u rfl s B⟩
 ·show .inl (I4d z h p q r R Y o)
variable{C:MC}{k:Nat}{X:Cx}
def Sq:UnS C k X (unaryOp .USub) MK:=λc=>by
 let h:UnR X (unaryOp .USub) (rU λi=>.int<|-i):=P7;show λn s y H x v Q I z q=>h n s y H x v Q I z ?_;let(w,h,p,(r),R,o):=q;cases p with
 |int i=>subst R;show I1b i rfl<|o.val r rfl
 |_=>exact o.elim
open PySem
@[irreducible]def Rs.W{α:Type}(r:Rs α)(Q:α->PH->Prop):Prop:=match r with
 |.ok a h=>Q a h
 |_=>False
structure FE where
 nx:Ev->PH->Prop
 rt:PV->PH->Prop
 bk:Ev->PH->Prop:=λ_ _=>False
 ct:Ev->PH->Prop:=λ_ _=>False
@[irreducible]def Fl.W(r:Fl)(E:FE):Prop:=match r with
 |.nx δ h=>Z9 h
 |.rt p h=>E.rt p h
 |.bk δ h=>E.bk δ h
 |.ct δ h=>E.ct δ h
 |_=>False
@[irreducible]def Lt(b:Ms)(E:FE)(δ:Ev)(h:PH):Prop:=(b δ h).W E
variable{ys:E_ 0}{z:Str}{h1:PH}{args:E_ 0}
section
unseal Rs.W Fl.W Lt
variable{α β:Type}{Q:α->PH->Prop}{E:FE}
@[simp]theorem iX{a:α}:(Rs.ok a h).W Q=Q a h:=(rfl)
@[simp]theorem Sr:(Fl.nx δ h).W E=Z9 h:=(rfl)
@[simp]theorem Vc:(Fl.rt p h).W E=E.rt p h:=(rfl)
@[simp]theorem zG{Q:β->PH->Prop}{r:Rs α}{f:α->PH->Rs β}:(γP 0).W Q=r.W λa h=>(f a h).W Q:=by cases r <;> rfl
@[simp]theorem Ff{r:Rs α}{f:α->PH->Fl}:(r.fl f).W E=r.W λa h=>(f a h).W E:=by cases r <;> rfl
def Cg{Q':α->PH->Prop}{r:Rs α}(h:r.W Q)(i:∀a h,Q a h->Q' a h):r.W Q':=by cases r <;> first|exact i _ _ h|exact h
@[simp]theorem V1{c:Prop}[Decidable c]{x y:Rs α}:(if c then x else y).W Q=if c then x.W Q else y.W Q:=by split <;> rfl
@[simp]theorem V3:(Rs.bad:Rs α).W Q=False:=(rfl)
@[simp]theorem UC:Fl.bad.W E=False:=(rfl)
def cU{r:Rs α}(w:r.W Q):∃a h,r=.ok a h/\Q a h:=by
 cases r with
 |ok a h=>exact I2b a h rfl w
 |exc=>exact w.elim
 |bad=>exact w.elim
variable{a b:Ms}{mc:Me}{t ta tb:Ev->PH->X7 0}{g g':PV->PV->PH->Yv 0}
def aD:(aF a b δ h).W E=(a δ h).W { E with nx:=Lt b E}:=by
 change(match a δ h with|.nx δ1 h1=>b δ1 h1|r=>r).W E=_
 cases a δ h <;> rfl
def now{b:Ms}(w:(b δ h).W E):Lt b E δ h:=w
@[simp]theorem Ss:(bP δ h).W E=Z9 h:=(rfl)
@[simp]theorem Su:(MQ δ h).W E=E.ct δ h:=(rfl)
@[simp]theorem qW:(aT i m δ h).W E=(Zk h).W λp h=>E.nx (βN<|a8 p) h:=by simp[aT]
@[simp]theorem V5{t:Mg}:(qR m t δ h).W E=(Zk h).W λp h=>∃δ',t p δ=a8 δ'/\E.nx δ' h:=by
 unfold qR;cases m δ h with
 |ok p h1=>
  change(match t p δ with|some δ'=>Fl.nx δ' h1|none=>.bad).W E=∃δ',t p δ=a8 δ'/\E.nx δ' h1
  cases t p δ <;> simp[Fl.W]
 |exc=>rfl
 |bad=>rfl
@[simp]theorem V6:(dY m δ h).W E=(Zk h).W λ_ h=>Z9 h:=by simp[dY]
@[simp]theorem jT:(aQ m δ h).W E=(Zk h).W E.rt:=by simp[aQ]
@[simp]theorem gQ:(bE t a b δ h).W E=(t δ h).W λc h=>if c=true then(a δ h).W E else(b δ h).W E:=by
 unfold bE;rw[Ff];congr;funext c h;cases c <;> simp
@[simp]theorem Os:mV i δ h=match Cd δ i with|some p=>.ok p h|none=>.bad:=rfl
@[simp]theorem zH:mC p δ h=.ok p h:=rfl
@[simp]theorem xJ:aB g ma mb δ h=(ma δ h).bind λx h1=>(mb δ h1).bind λy h2=>g x y h2:=rfl
@[simp]theorem UD{g:PV->PH->Yv 0}:mUn g ma δ h=(ma δ h).bind g:=rfl
@[simp]theorem TJ:aN m δ h=(Zk h).bind tru:=rfl
@[simp]theorem Sv:qU t δ h=(t δ h).bind λb h1=>.ok (!b) h1:=rfl
@[simp]theorem Sw:qV ta tb δ h=(ta δ h).bind λb h1=>if b=true then tb δ h1 else .ok false h1:=by unfold qV;congr 1;funext b h1;cases b <;> simp
@[simp]theorem TK:oC ta tb δ h=(ta δ h).bind λb h1=>if b=true then .ok true h1 else tb δ h1:=by unfold oC;congr 1;funext b h1;cases b <;> simp
@[simp]theorem UE:mIf t ma mb δ h=(t δ h).bind λb h1=>if b=true then ma δ h1 else mb δ h1:=by unfold mIf;congr 1;funext b h1;cases b <;> simp
abbrev bl2(x:PV)(f g:Yv 0):Yv 0:=match x with
 |.bl true=>f
 |.bl false=>g
 |_=>.bad
@[simp]theorem UF{b:Bool}{f g:Yv 0}:bl2 (.bl b) f g=if b=true then f else g:=by cases b <;> simp[bl2]
open H in
@[simp]theorem Sx:Bu ma mb δ h=(ma δ h).bind λx h1=>bl2 x (mb δ h1) (.ok (.bl false) h1):=by unfold Bu;first|rfl|(congr 1;funext x h1;cases x <;> first|rfl|(rename_i b;cases b <;> rfl))
open H in
@[simp]theorem TL:Ig ma mb δ h=(ma δ h).bind λx h1=>bl2 x (.ok (.bl true) h1) (mb δ h1):=by unfold Ig;first|rfl|(congr 1;funext x h1;cases x <;> first|rfl|(rename_i b;cases b <;> rfl))
@[simp]theorem Sy{b:Bool}:Om (.bl b) h=.ok (.bl b) h:=rfl
@[simp]theorem qI:aX ms δ h=(Yh h).bind λxs h1=>if xs.l<=wa then .ok (.tup xs) h1 else .bad:=rfl
@[simp]theorem MW:cK ms δ h=(Yh h).bind λxs h1=>if xs.l<=wa then .ok (.ref h1.l) (h1++[.lst xs]) else .bad:=rfl
@[simp]theorem Bv:dI δ h=.ok (.ref h.l) (h++[.dK []]):=(rfl)
@[simp]theorem MX:aC δ h=.ok [] h:=rfl
@[simp]theorem dC:aA m ms δ h=(Zk h).bind λx h1=>(Yh h1).bind λxs h2=>.ok (x::xs) h2:=rfl
@[simp]theorem Q5{g:E_ 0->PH->Yv 0}:mCB g ms δ h=(Yh h).bind g:=rfl
@[simp]theorem Sz{f:Fn}:bD n f ms δ h=(Yh h).bind λps h1=>if ps.l=n then f ps h1 else .bad:=rfl
@[simp]theorem TM:kM δ h=.ok a9 h:=rfl
abbrev JK(x:PV)(h:PH):Rs (Yd 0):=match x with
 |.int i=>.ok (a8 i) h
 |_=>.bad
@[simp]theorem Q6{i:Int}:JK (.int i) h=.ok (a8 i) h:=rfl
@[simp]theorem V8:mP m δ h=(Zk h).bind JK:=rfl
@[simp]theorem UG:mSl m ml mh δ h=(Zk h).bind λx h1=>(ml δ h1).bind λl h2=>(mh δ h2).bind λu h3=>vSl x l u h3:=rfl
@[simp]theorem UH{g:PV->E_ 0->PH->Yv 0}:mMt ty g m ms δ h=(Zk h).bind λx h1=>if ty x h1=true then(Yh h1).bind λps h2=>g x ps h2 else .bad:=rfl
@[simp]theorem TN{g:PV->E_ 0->PH->Yv 0}:hV ty g m δ h=(Zk h).bind λx h1=>if ty x h1=true then g x [] h1 else .bad:=rfl
@[simp]theorem tV:wa=16777216:=by rw[yt]
def Gr{i j:Int}(c:(-18446744073709551616<i/\i<18446744073709551616)\/(-18446744073709551616<j/\j<18446744073709551616)):B3 (.int i) (.int j) h=.ok (.int<|i*j) h:=by show Za 0
@[simp]theorem SB{i j:Int}(c:(-18446744073709551616<i/\i<18446744073709551616)\/(-18446744073709551616<j/\j<18446744073709551616)):vInt Ez (λi j=>i*j) (.int i) (.int j) h=.ok (.int<|i*j) h:=Gr c
@[simp]theorem TQ{i j:Int}(c:0<j/\j<1073741824):vInt IZ (λi j=>i/j) (.int i) (.int j) h=.ok (.int<|i/j) h:=Za 0
@[simp]theorem Gs{i j:Int}(c:0<j):vInt (λ_ j=>0<j) (λi j=>i%j) (.int i) (.int j) h=.ok (.int<|i%j) h:=Za 0
@[simp]theorem MY{i j:Int}(c:0<=j/\j<=1000000/\-18446744073709551616<i/\i<18446744073709551616):vInt Hn (λi j=>i ^ j.toNat) (.int i) (.int j) h=.ok (.int<|i ^ j.toNat) h:=by
 change(if Hn i j then _ else _)=_
 show if_pos ⟨c.1,c.2.1,?_⟩;let(_,_,h1,h2):=c;omega
@[simp]theorem MZ{i j:Int}:xE (.int i) (.int j) h=.ok (.int<|i-j) h:=(rfl)
@[simp]theorem TU{i:Int}:MK (.int i) h=.ok (.int<|-i) h:=(rfl)
@[simp]theorem Bw{i j:Int}:aU (.int i) (.int j) h=.ok (.int<|i+j) h:=(rfl)
@[simp]theorem R1{y:Str}(c:x.l+y.l<=16777216):aU (.str x) (.str y) h=.ok (.str<|x++y) h:=Za 0
@[simp]theorem R3(c:xs.l+ys.l<=16777216):aU (.tup xs) (.tup ys) h=.ok (.tup<|xs++ys) h:=by
 cases xs with
 |nil=>rfl
 |cons x xs=>exact if_pos ⟨rfl,c⟩
@[simp]theorem SC{f:Int->Int->Bool}{g:Z5 0->Z5 0->Bool}{i j:Int}:JA f g (.int i) (.int j) h=.ok (.bl<|f i j) h:=(rfl)
@[simp]theorem UI{b:Bool}:tru (.bl b) h=.ok b h:=rfl
@[simp]theorem SD:ofO (a8 p) h=.ok p h:=rfl
@[simp]theorem SF{b:Bool}:ofB (a8 b) h=.ok (.bl b) h:=rfl
@[simp]theorem TV{i:Int}:vIx (.tup xs) (.int i) h=ofO (βa i) h:=(rfl)
@[simp]theorem UJ{i:Int}:vIx (.fl xs) (.int i) h=ofO (βa i) h:=(rfl)
def bC{i:Int}(e:h[n]?=a8 (.lst xs)):vIx (.ref n) (.int i) h=ofO (βa i) h:=by simp[vIx,aJ,e]
@[simp]theorem N0{i:Int}(c:z.l<=16777216):vIx (.str z) (.int i) h=ofO ((βb i).map λc=>.str ⟨#[c]⟩) h:=Za 0
@[simp]theorem TX:lM [.fl xs] h=.ok (.int xs.l) h:=(rfl)
@[simp]theorem SH(c:x.l<=16777216):lM [.str x] h=.ok (.int x.l) h:=Za 0
def zI(e:h[n]?=a8 (.lst xs)):lM [.ref n] h=.ok (.int xs.l) h:=by simp[lM,aJ,e]
@[simp]theorem TY{i j:Int}:JF [.int i,.int j] h=.ok (.int<|if j>i then j else i) h:=(rfl)
@[simp]theorem SJ{i:Int}:B5 [.int i,.ty c] h=if c∈known then .ok (.bl<|oK "int" c) h else .bad:=(rfl)
@[simp]theorem SK{i:Str}:B5 [.str i,.ty c] h=if c∈known then .ok (.bl<|oK "str" c) h else .bad:=(rfl)
@[simp]theorem SL{i:E_ 0}:B5 [.tup i,.ty c] h=if c∈known then .ok (.bl<|oK "tuple" c) h else .bad:=(rfl)
def iL(e:h[n]?=a8 (.lst xs)):isL (.ref n) h=true:=by simp[isL,cD,e]
def mS(e:h[n]?=a8 (.lst xs))(c:xs.l<16777216):onL eW (.ref n) [p] h=.ok .non (P_<|.lst<|xs++[p]):=by simp[onL,cD,e,eW,c]
def N1{α:Type}{xs:k_ α}{i:Int}(H:0<=i)(h1:i<xs.l):βa i=xs[i.toNat]?:=by unfold atI ixN;rw[βf 0,if_pos h1];rfl
def JL{α:Type}{xs:k_ α}{x:α}:atI (xs++[x]) (-1)=a8 x:=by
 unfold atI ixN;rw[if_neg<|by decide,if_pos (by simp;omega)];have:((-1:Int)+((xs++[x]).length:Int)).toNat=xs.l:=by simp;omega
 rw[this];simp
def zJ{g:PH->Bool}{tg:Mg}{body:Ms}{E:FE}(I:Nat->Ev->PH->Prop):∀(s)(k)(w)(h),I k w h->
  (∀i x w h,k<=i->s[i-k]?=a8 x->I i w h->g h=true/\∃u,tg x w=a8 u/\(body u h).W { nx:=I<|i+1,ct:=I<|i+1,rt:=E.rt,bk:=E.nx})->
  (∀w h,I (k+s.l) w h->g h=true/\E.nx w h)->(αB s w h).W E
 |[],k,w,h,o,_,f=>by let(q,H):=f w h o;simp[jS,q,H]
 |x::s,k,w,h,o,t,f=>by
  let(q,u,H,v):=t k x w h (vk _) (by simp) o;let G:∀z H,I _ z H->(αB s z H).W E:=λz H m=>
   zJ I s _ z H m (λi y w h K Y=>t i y w h (Vx K) (by
    have:=(Nat.succ_pred_eq_of_pos (Nat.sub_pos_of_lt K)).symm;rw[this];show Y)) (λw h n=>f w h (by
    let e:k+(x::s).length=k+1+s.l:=Nat.add_right_comm k _ 1;rw[e];show n))
  unfold jS;rw[if_pos q,H]
  change Fl.W (match body u h with|.nx z H=>αB s z H|.ct z H=>αB s z H|.bk z H=>.nx z H|r=>r) E
  cases e:body u h with
  |nx z H=>rw[e]at v;show G z H v
  |ct z H=>rw[e]at v;show G z H v
  |bk z H=>rw[e]at v;show v
  |rt p H=>rw[e]at v;show v
  |exc=>rw[e]at v;show v
  |bad=>rw[e]at v;show v
def Q7{body:Ms}{j:Int}(I:Nat->Ev->PH->Prop)(e:Yh h=.ok [.int j] h)(y:-4611686018427387904<=j/\j<4611686018427387904)(z:I 0 δ h)(s:∀(q:Nat) δ h,(q)<j->I q δ h->(body (βN<|b0 q) h).W { nx:=I<|q+1,ct:=I<|q+1,rt:=E.rt,bk:=E.nx})(f:∀δ h,I j.toNat δ h->Z9 h):(gP (tU ms) (gN i) body δ h).W E:=by
 unfold gP tU;rw[e];let J:-(2 ^ 62)<=j/\j<2 ^ 62:=y;simp only[Rs.bind_ok,Gn,if_pos J,Rs.fl_ok];show δT h z (λq x δ h _ X H=>?_) (λδ h H=>⟨rfl,f δ h (by rw[gO,VC]at H;show H)⟩);let w:q<j.toNat:=by have:=(vg.mp X).1;rw[gO]at this;omega
 rw[Nat.sub_zero,zF _ _ _ w]at X
 exists X
 show(rfl,_,rfl,?_);rw[Int.zero_add];show s q δ h ⋯ H
def JM{tg:Mg}{body:Ms}(I:Nat->Ev->PH->Prop)(e:Zk h=.ok (.tup xs) h\/Zk h=.ok (.fl xs) h)(H:I 0 δ h)(s:∀(q) x δ h,xs[q]?=a8 x->I q δ h->∃z,tg x δ=a8 z/\(body z h).W { nx:=I<|q+1,ct:=I<|q+1,rt:=E.rt,bk:=E.nx})(f:∀δ h,δU h->Z9 h):(gP (bB m) tg body δ h).W E:=by
 let o:=δT h H (λq x δ h _ X i=>⟨rfl,s q x δ h (d0 X) i⟩)<|λδ h i=>⟨rfl,f δ h<|d0 i⟩;unfold gP bB;rcases e with e|e <;> rw[e] <;> exact o
def oM{tg:Mg}{body:Ms}(I:Nat->Ev->PH->Prop)(e:Zk h=.ok (.ref n) h1)(N:h1[n]?=a8 (.lst xs))(u:I 0 δ h1)(k:∀q δ h,q<=xs.l->I q δ h->h[n]?=a8 (.lst xs))(s:∀(q) x δ h,xs[q]?=a8 x->I q δ h->∃z,tg x δ=a8 z/\(body z h).W { nx:=I<|q+1,ct:=I<|q+1,rt:=E.rt,bk:=E.nx})(f:∀δ h,δU h->Z9 h):(gP (bB m) tg body δ h).W E:=by
 let K:∀{h:PH},h[n]?=a8 (.lst xs)->tT n xs h=true:=λ{h} e=>by
  let w:Ym n=a8 xs:=by unfold aJ;rw[e]
  unfold tT;rw[w];show δj 0
 unfold gP bB;rw[e];let v:ofSeq (.ref n) h1=.ok ⟨xs,tT n xs⟩ h1:=by
  let w:aJ h1 n=a8 xs:=by unfold aJ;rw[N]
  unfold ofSeq;simp[w]
 rw[Rs.bind_ok,v];show δT h1 u (λq x δ h _ X y=>?_)<|λδ h y=>?_
 ·let H:xs[q]?=a8 x:=by simpa using X
  have:=(vg.mp H).1;show(K<|k q δ h ⋯ y,s q x δ h H y)
 ·let i:δU h:=by simpa using y
  show(K<|k _ δ h (vk _) i,f δ h i)
def W_fn{N:Nat}{body:Ms}{Q:PV->PH->Prop}(w:(body (args.map a8++Vj (N-args.l) a9) h).W { nx:=λ_ h=>Q .non h,rt:=Q}):(mFn N body args h).W Q:=by
 unfold mFn;cases e:body (args.map a8++Vj _ a9) h with
 |nx z H=>rw[e]at w;show w
 |rt p H=>rw[e]at w;show w
 |_=>rw[e]at w;show w.elim
@[simp]theorem V9:gN i p δ=a8 (βN<|a8 p):=rfl
@[simp]theorem UK{u:Mgs}{ps:E_ 0}:gTp n u (.tup ps) δ=if ps.l=n then u ps δ else a9:=rfl
@[simp]theorem UL{t:Mg}{u:Mgs}{r:E_ 0}:gCn t u (p::r) δ=(t p δ).bind (u r):=rfl
@[simp]theorem UM:gNl [] δ=a8 δ:=rfl
end
abbrev Ext(h h':PH):Prop:=∀(n:Nat)(o:MO),h[n]?=a8 o->h'[n]?=a8 o
def Ext.refl(h:PH):t_ h:=λ_ _ e=>e
variable{h2:PH}
def Ext.trans(a:t_ h1)(b:YQ h2):t_ h2:=λn o e=>b n o<|a n o e
def Ext.app(h g):t_ (h++g):=λn o e=>by rw[ya (Y7 0).1];show e
def Ext.len{h':PH}(e:t_ h'):h.l<=h'.l:=by
 rcases Nat.lt_or_ge _ _ with z|z
 ·have:h[h'.length]?=a8 h[h'.length]:=by simp[z]
  have:=(vg.mp<|e _ _ this).1;omega
 ·show z
def aE{o:MO}:(h++[o])[h.length]?=a8 o:=by simp
variable{o':MO}
def aR{o:MO}(e:h[n]?=a8 o):(P_ o')[n]?=a8 o':=yi (Y7 0).1
def aI{m:Nat}{o:MO}(e:h[m]?=a8 o)(d:n≠m):(P_ o')[m]?=a8 o:=by rw[ym d];show e
abbrev PV.pl:Nat->PV->Bool
 |_,.non=>true
 |_,.int _=>true
 |_,.str _=>true
 |n+1,.tup xs=>xs.all (PV.pl n)
 |_,_=>false
def N2{x:PV}{d:D}{ds:k_ D}(h1:x.d=a8 d)(h2:PV.ds xs=a8 ds):PV.ds (x::xs)=a8 (d::ds):=by simp[PV.ds,h1,h2]
def SM{ds:k_ D}(h:PV.ds xs=a8 ds):(α2 0).d=a8 (.tup ds):=by simp[PV.d,h]
open H in
def cH{d:D}(h:(α2 0).d=a8 d):∃s,PV.ds xs=a8 s/\d=.tup s:=by
 unfold PV.d at h;split at h
 ·rename_i s e;exists h;show I1b s e rfl
 ·exists h
open H in
def cW{x:PV}{ds:k_ D}(h:PV.ds (x::xs)=a8 ds):∃d r,x.d=a8 d/\PV.ds xs=a8 r/\ds=d::r:=by
 unfold PV.ds at h;split at h
 ·rename_i d r e E;exists h;show I2c d r e E rfl
 ·exists h
def JN:∀(n)(x:PV),x.pl n=true->∃d,x.d=a8 d/\d.depth<=n:=by
 intro n
 induction n with
 |zero=>intro x h;cases x <;> first|exact(A0 rfl<|vk _)|(simp[PV.pl]at h)
 |succ n I=>
  intro x h;cases x with
  |tup X=>
   let m:∀(X),X.all (PV.pl n)=true->∃s,PV.ds X=a8 s/\D.depths s<=n:=by
    intro X
    induction X with
    |nil=>intro _;show I1b [] rfl<|w6 _
    |cons x X i=>
     intro h;simp only[WY,wy]at h;let(d,(H),z):=I x h.1;let(s,(y),w):=i h.2;show(d::s,N2 H y,?_)
     change max _ _<=n
     omega
   let(s,(H),z):=m X h;show(.tup s,SM H,?_)
   change D.depths s+1<=n+1
   omega
  |_=>first|exact(A0 rfl<|w6 _)|(simp[PV.pl]at h)
def Ot:∀(n)(x y:PV)(d e:D),x.pl n=true->y.pl n=true->x.d=a8 d->y.d=a8 e->eqD d e=decide (x=y):=by
 intro n
 induction n with
 |zero=>
  intro x y d e X H z h;cases x <;> first|(simp[PV.pl]at X;done)|skip
  all_goals cases z
  all_goals cases y <;> first|(simp[PV.pl]at H;done)|skip
  all_goals cases h
  all_goals simp[eqD]
  all_goals rw[XF]
  all_goals simp
 |succ n t=>
  intro x y d e X H z h;let l:∀(S s)(w E),S.all (PV.pl n)=true->s.all (PV.pl n)=true->PV.ds S=a8 w->PV.ds s=a8 E->HJ w E=decide (S=s):=by
   intro S
   induction S with
   |nil=>
    intro s w E _ _ z h
    exists z
    cases s with
    |nil=>exists h;rfl
    |cons y s=>let⟨d,r,_,_,rfl⟩:=cW h;simp[HJ]
   |cons x S I=>
    intro s w E X H z h;let(d,r,(G),g,z1):=cW z;subst z1;simp only[WY,wy]at X;cases s with
    |nil=>exists h;simp[HJ]
    |cons y s=>let⟨e,q,v,u,rfl⟩:=cW h;simp only[WY,wy]at H;simp only[HJ,t x y d e X.1 H.1 G v,I s r q X.2 H.2 g u];simp
  cases x with
  |tup S=>
   let(w,(G),z0):=cH z;subst z0;cases y with
   |tup s=>let⟨E,g,rfl⟩:=cH h;simp only[eqD,l S s w E X H G g];simp
   |non=>exists h;simp[eqD]
   |int j=>exists h;simp[eqD]
   |str j=>exists h;simp[eqD]
   |_=>simp[PV.pl]at H
  |non=>
   cases z
   cases y with
   |tup s=>let⟨E,g,rfl⟩:=cH h;simp[eqD]
   |non=>exists h;simp[eqD]
   |int j=>cases h;simp[eqD]
   |str j=>cases h;simp[eqD]
   |_=>simp[PV.pl]at H
  |int i=>
   cases z
   cases y with
   |tup s=>let⟨E,g,rfl⟩:=cH h;simp[eqD]
   |non=>cases h;simp[eqD]
   |int j=>cases h;simp[eqD];rw[XF];simp
   |str j=>cases h;simp[eqD]
   |_=>simp[PV.pl]at H
  |str i=>
   cases z
   cases y with
   |tup s=>let⟨E,g,rfl⟩:=cH h;simp[eqD]
   |non=>cases h;simp[eqD]
   |int j=>cases h;simp[eqD]
   |str j=>cases h;simp[eqD];rw[XF];simp
   |_=>simp[PV.pl]at H
  |_=>simp[PV.pl]at X
section
variable{α:Type}{a b c d e f g:α}{r:k_ α}
def xK{xs:k_ α}{v:α}(i:Nat)(h:xs[i]?=a8 v):βa (i)=a8 v:=hQ h
@[simp]theorem Vd:atI (a::r) 0=a8 a:=xK 0 rfl
@[simp]theorem Ve:atI (a::b::r) 1=a8 b:=xK 1 rfl
@[simp]theorem Vf:atI (a::b::c::r) 2=a8 c:=xK 2 rfl
@[simp]theorem Vg:atI (a::b::c::d::r) 3=a8 d:=xK 3 rfl
end
open PySem.SeqAt
open PySem.AutoSeq1 (wpAny_loadPart')
open PySem.MeetsSeq PySem.MeetsSeq2 PySem.MeetsSeq3
abbrev N3(A:i_)(s:g_)(v u:gV)(b:Bool):Prop:=∀(prog:j3)(w:j2)(E:b9 0)(Q:b9 0),Q (.bool b) s->l_ (richCompare .Lt v u) Q E s
abbrev SN(A:i_)(s:g_)(v u:gV)(d e:D):Prop:=βK v u (eqD d e)/\(eqD d e=false->∀b,ltD d e=a8 b->εQ b)
@[reducible]def Bx(A:i_)(s:g_):YX 0->YX 0->k_ D->k_ D->Prop:=λvs us ds es=>vs.l=ds.l/\us.l=es.l/\∀(j:Nat) v u d e,vs[j]?=a8 v->us[j]?=a8 u->ds[j]?=a8 d->es[j]?=a8 e->SN A s v u d e
variable{us:YX 0}
def Bx.tail{d e:D}{ds es:k_ D}(h:Bx A s (v::vs) (u::us) (d::ds) (e::es)):SN A s v u d e/\Bx A s vs us ds es:=(I0d (h.2.2 0 v u d e rfl rfl rfl rfl) (by have:=h.1;simpa using this) (by have:=h.2.1;simpa using this) λj v u d e H z y x=>h.2.2 (j+1) v u d e (d0 H) (d0 z) (d0 y)<|d0 x)
def Ci(l b:h_)(t i:K_ 0)(n M:Nat)(f k:l7 h_)(K L:d8 0)(o es:k_ D)(c:Bool)(C:Da o es=a8 c):
  Meets (Builtin.«tuple.__lt__» ⟨[.ref l,.ref b],[]⟩)
   (λA R s=>s.heap.get? l=a8 {cls:=.type "tuple",dict:=f,data:=.seq t n,slots:=K}/\tx 0=a8 {cls:=.type "tuple",dict:=k,data:=.seq i M,slots:=L}/\
    Bx A.in1 s t.toList i.toList o es/\R (.ok (.ret (.bool c))) s):=
 .of_wp λp w A R s h=>by
  let(P,g,d,T,O):=s;let(hl,hb,hit,h):=h;let F:=AutoSeq1.sub_tuple_tuple;let E:t.size=o.l:=by rw[<-hit.1];simp
  let z2:i.size=es.l:=by rw[<-hit.2.1];simp
  wp_walk using wpAny_loadPart' hl,wpAny_loadPart' hb,γz (λr b j=>b.1=a9/\j=⟨P,g,d,T,O⟩/\∃(S W:YX 0)(N m:k_ D),r=S.zip W/\
   Bx A.in1 ⟨P,g,d,T,O⟩ S W N m/\N.l+i.size=m.l+t.size/\Da N m=a8 c) _
  case turn=>
   rintro⟨y,x⟩ r b j ⟨B,rfl,S,W,N,m,Z,V,H,z⟩;cases S with
   |nil=>rw[List.zip_nil_left]at Z;cases Z
   |cons v S=>
    cases W with
    |nil=>rw[List.zip_nil_right]at Z;cases Z
    |cons u W=>
     rw[List.zip_cons_cons]at Z;injection Z with hyx hrest;injection hyx with hy hx;subst hy hx;cases N with
     |nil=>have:=V.1;simp at this
     |cons a N=>
      cases m with
      |nil=>have:=V.2.1;simp at this
      |cons e m=>
       let((Y,X),U):=Bx.tail V;simp only[yz]at H;rw[show Da (a::N) (e::m)=if eqD a e=true then Da N m else ltD a e from rfl]at z
       show eg<|Y p w _ _ ?_;cases q:eqD a e with
       |true=>
        rw[q,if_pos rfl]at z
        wp_walk
        show(rfl,rfl,_,_,_,_,hrest,U,⋯,z)
       |false=>
        rw[q,if_neg wg]at z;let I:=X q c z p w
        wp_walk using I
        show(_,rfl,d0 h)
  case fin=>
   rintro⟨J,G⟩ j ⟨B,rfl,S,W,N,m,Z,V,H,z⟩;simp only at B;subst B;let Q:c=decide (t.size<i.size):=by
    cases N with
    |nil=>
     cases m with
     |nil=>
      simp only[List.length_nil]at H;cases z
      show(decide_eq_false ⋯).symm
     |cons e m=>
      simp only[List.length_nil,yz]at H
      exists z
      show(decide_eq_true ⋯).symm
    |cons a N=>
     cases m with
     |nil=>
      simp only[List.length_nil,yz]at H
      exists z
      show(decide_eq_false ⋯).symm
     |cons e m=>
      exfalso;cases S with
      |nil=>have:=V.1;simp at this
      |cons v S=>
       cases W with
       |nil=>have:=V.2.1;simp at this
       |cons u W=>rw[List.zip_cons_cons]at Z;exists Z
   rw[Q]at h
   wp_walk
   show(_,rfl,by simpa[Builtin.Tuple.tupleCompareSizes] using h)
  case h=>exact⟨rfl,rfl,t.toList,i.toList,o,es,rfl,hit,⋯,C⟩
variable{C:MC}{k:Nat}{X:Cx}
abbrev UN(x y:PV):β9 0:=match x.d,y.d with
 |some d,a8 e=>if d.depth<=40 then ltD d e else a9
 |_,_=>a9
abbrev V':PV->PV->PH->Yv 0:=λx y h=>match x,y with
 |.tup xs,.tup ys=>ofB (UN (.tup xs)<|.tup ys) h
 |x,y=>vLt x y h
abbrev ltL(f:PV->PV->β9 0):E_ 0->E_ 0->β9 0
 |[],[]=>γL 0
 |[],_::_=>a8 true
 |_::_,[]=>γL 0
 |x::xs,y::ys=>if x=y then ltL f xs ys else f x y
abbrev ltP:Nat->PV->PV->β9 0
 |_,.int a,.int b=>a8 (decide (a<b))
 |_,.str a,.str b=>a8 (decide (a.cps.toList<b.cps.toList))
 |n+1,.tup xs,.tup ys=>ltL (ltP n) xs ys
 |_,_,_=>a9
def Ou:∀(n)(x y)(d e:D),x.pl n=true->y.pl n=true->x.d=a8 d->y.d=a8 e->ltD d e=ζv y:=by
 intro n
 induction n with
 |zero=>
  intro x y d e X H z h;cases x <;> first|(exists X;done)|skip
  all_goals exists z
  all_goals cases y <;> first|(exists H;done)|skip
  all_goals exists h
  all_goals rfl
 |succ n t=>
  intro x y d e X H z h;let l:∀(S s)(w E),S.all (PV.pl n)=true->s.all (PV.pl n)=true->PV.ds S=a8 w->PV.ds s=a8 E->Da w E=ltL (ltP n) S s:=by
   intro S
   induction S with
   |nil=>
    intro s w E _ _ z h
    exists z
    cases s with
    |nil=>exists h;rfl
    |cons y s=>let⟨d,r,_,_,rfl⟩:=cW h;rfl
   |cons x S I=>
    intro s w E X H z h;let(d,r,(G),g,z1):=cW z;subst z1;simp only[WY,wy]at X;cases s with
    |nil=>exists h;rfl
    |cons y s=>
     let(e,q,v,u,rfl):=cW h;simp only[WY,wy]at H
     change(if eqD d e=true then Da r q else ltD d e)=if x=y then ltL _ S s else ltP n x y
     simp[Ot n x y d e X.1 H.1 G v,I s r q X.2 H.2 g u,t x y d e X.1 H.1 G v,decide_eq_true_eq]
  cases x with
  |tup S=>
   let(w,(G),z0):=cH z;subst z0;cases y with
   |tup s=>let⟨E,g,rfl⟩:=cH h;show l S s w E X H G g
   |non=>exists h;rfl
   |int j=>exists h;rfl
   |str j=>exists h;rfl
   |_=>exists H
  |non=>cases z;cases y <;> first|(exists H;done)|(let⟨E,g,rfl⟩:=cH h;rfl;done)|(exists h;rfl)
  |int i=>cases z;cases y <;> first|(exists H;done)|(let⟨E,g,rfl⟩:=cH h;rfl;done)|(exists h;rfl)
  |str i=>cases z;cases y <;> first|(exists H;done)|(let⟨E,g,rfl⟩:=cH h;rfl;done)|(exists h;rfl)
  |_=>exists X
variable{C:MC}{k:Nat}{X:Cx}
def Ik:A1 X->δA (.builtin "sum") (λx H Q=>∃(p:h_)(n:YV 0),x=[.ref p]/\SqL C.K H p (n.map V.int)/\Q (.int n.sum) H):=λc=>by
 rintro P s j H x U Q I r ⟨p,n,rfl,z,q⟩;let(u,rfl,R):=εw 0;subst R;rw[<-c.K]at z;let(t,(v),L,Z):=I.list z;let i:=intsAre_of v;let(y,Y):=i.allInts.items;let l:=L.isList;rw[Y]at l;show sum_intListG (Zh 0) l λo m T w=>?_;let e:preSum (numAt y) y.size=n.sum:=by let E:=preSum_eq y y.size;rw[List.take_of_length_le<|by simp]at E;rw[E,<-nums_intItems,<-Y];have:=i.numsOf;rw[this]
 rw[e];show I2c (.int n.sum) H (I.kept w) ⟨_,rfl⟩ q
abbrev zK:E_ 0->l7 (YV 0)
 |[]=>a8 []
 |.int i::r=>(zK r).map (i::·)
 |_::_=>a9
def Cj{φ:k_ h_}{H:Hp}:∀{xs:E_ 0}{vs:k_ V}{ns:YV 0},Yx 0->zK xs=a8 ns->vs=ZF 0
 |[],[],_,_,e=>by exists e;rfl
 |x::xs,v::vs,ns,⟨h,r⟩,e=>by
  cases x with
  |int i=>subst h;simp[zK]at e;let(m,e,rfl):=e;rw[Cj r e];rfl
  |_=>exists e
 |[],_::_,_,h,_=>h.elim
 |_::_,[],_,h,_=>h.elim
def By(s):zK (s.map PV.int)=a8 s:=by
 induction s with
 |nil=>rfl
 |cons n s i=>simp[zK,i]
abbrev Il:E_ 0->PH->Yv 0:=λxs h=>match xs with
 |[x]=>match wI x h with
  |some ys=>match zK ys with
   |some ns=>.ok (.int ns.sum) h
   |none=>.bad
  |none=>.bad
 |_=>.bad
open H in
def SQ:Zp (.builtin "sum") Il:=λc=>(Ik c).imp λS H Q h=>by
 let(z,h,P,(r),V,p):=h;unfold Il at p;split at p
 ·let(v,rfl,x):=V.one;split at p
  ·rename_i y e;split at p
   ·rename_i N n;let(a,S,(z0),s,R):=gM r x e;subst z0;rw[Cj R n]at s;show I2c a N rfl s<|p.val r rfl
   ·show p.elim
  ·show p.elim
 ·show p.elim
def JO(e:h[n]?=a8 (.lst<|ns.map PV.int)):Il [.ref n] h=.ok (.int ns.sum) h:=by
 let E:wI (.ref n) h=a8 (ζu 0):=by unfold wI aJ;simp[e]
 unfold Il;simp[E,By]
open PySem
@[simp]theorem TZ{lo:Yd 0}{hi:Yd 0}(c:z.l<=16777216):vSl (.str z) lo hi h=.ok (.str<|Vl z lo hi) h:=Za 0
@[simp]theorem U0{lo:Yd 0}{hi:Yd 0}:vSl (.tup xs) lo hi h=.ok (.tup<|fP xs lo hi) h:=(rfl)
@[simp]theorem UO{lo:Yd 0}{hi:Yd 0}:vSl (.fl xs) lo hi h=.ok (.ref h.l) (h++[.lst<|fP xs lo hi]):=(rfl)
def Gu{lo:Yd 0}{hi:Yd 0}(e:h[n]?=a8 (.lst xs)):vSl (.ref n) lo hi h=.ok (.ref h.l) (h++[.lst<|fP xs lo hi]):=by
 let E:Ym n=a8 xs:=by unfold aJ;rw[e]
 unfold vSl;simp[E]
@[simp]theorem U1{x:PV}:vIs x .non h=.ok (.bl<|rQ x) h:=(rfl)
@[simp]theorem Q8{x:PV}:iV x .non h=.ok (.bl<|!rQ x) h:=(rfl)
section
variable{tg:Mg}{g:PH->Bool}
def Ck{δ0:Ev}{Q:PV->PH->Prop}(I:Nat->PH->Prop):∀(X)(k)(h),I k h->
  (∀i x h,k<=i->X[i-k]?=a8 x->I i h->g h=true/\∃z,tg x δ0=a8 z/\(tst z h).W λb w=>if b=true then(elt z w).W λp H=>∃Y,H[n]?=a8 (.lst Y)/\Y.l<16777216/\I (i+1) (H.set n<|.lst<|Y++[p]) else I (i+1) w)->
  (∀h,I (k+X.l) h->g h=true/\Q (.ref n) h)->(oJ g tg tst elt δ0 n X h).W Q
 |[],k,h,t,_,f=>by let(l,v):=f h t;simp[oJ,l,v]
 |x::X,k,h,t,s,f=>by
  let(l,z,v,r):=s k x h (vk _) (by simp) t;let o:=λv m=>
   Ck I X (k+1) v m (λi y h K q=>s i y h (Vx K) (by
    have:=(Nat.succ_pred_eq_of_pos (Nat.sub_pos_of_lt K)).symm;rw[this];show q)) (λh u=>f h (by
    let e:k+(x::X).length=k+1+X.l:=Nat.add_right_comm k _ 1;rw[e];show u))
  unfold oJ;rw[if_pos l,v];rw[zG];show Cg r λb w B=>?_;cases b with
  |false=>exact o w<|d0 B
  |true=>
   rw[zG];show Cg (show(elt z w).W _ from by simpa using B) λp H P=>?_
   let(Y,(e),Z,u):=P;let E:cD H n=a8 Y:=by unfold cD;rw[e]
   simp[E,Z];show o _ u
def lN{α:Type}{ys:k_ α}{emb:α->PV}(f:α->l7 PV)(e:mi δ h=.ok ⟨γk 0,g⟩ h1)(G:∀h,YQ h->g h=true)(hz:ys.l<=16777216)(S:∀y∈ys,∃z,tg (emb y) (γe 0)=a8 z/\∀h,YQ h->match f y with
   |none=>tst z h=.ok false h
   |some p=>tst z h=.ok true h/\elt z h=.ok p h):δt tg tst elt δ h=.ok (.ref h1.l) (h1++[.lst (εm 0)]):=by
 let w:(δt tg tst elt δ h).W λp H=>p=.ref h1.l/\H=h1++[.lst<|ys.filterMap f]:=by
  unfold bK;rw[e];show Ck (λi H=>H=h1++[.lst<|(ys.take i).filterMap f]) (γk 0) 0 _ (by simp) (λi x H _ X I=>?_)<|λH I=>?_
  ·subst I;let X:(γk 0)[i]?=a8 x:=by simpa using X
   rw[wm]at X;let(y,(Y),z2):=w8.mp X;subst z2;let l:=(vg.mp Y).1;let(z,(T),s):=S y<|xw Y;let s:=s (h1++[.lst<|(ys.take i).filterMap f])<|Ext.app _ _;let t:ys.take (i+1)=ys.take i++[y]:=by rw[Xp,Y];rfl
   show(G _<|Ext.app _ _,z,T,?_);cases E:f y with
   |none=>rw[E]at s;rw[s];simp[t,E]
   |some p=>rw[E]at s;rw[s.1];simp[s.2];show(?_,by simp[t,E]);have:=List.length_filterMap_le f<|ys.take i;rw[zm]at this;omega
  ·subst I;simp;show G _<|Ext.app _ _
 let(p,H,(e),z0,z1):=cU w;subst z0;subst z1;show e
def Dr(e:Zk h=.ok (.ref n) h1)(H:h1[n]?=a8 (.lst xs)):bB m δ h=.ok ⟨xs,tT n xs⟩ h1:=by
 unfold bB;let E:aJ h1 n=a8 xs:=by unfold aJ;rw[H]
 rw[e,Rs.bind_ok];unfold ofSeq;simp[E]
def zL(H:h1[n]?=a8 (.lst xs)):∀h,YQ h->tT n xs h=true:=λh x=>by
 let e:Ym n=a8 xs:=by unfold aJ;rw[YY H]
 unfold tT;rw[e];show δj 0
def JP(e:Zk h=.ok (.tup xs) h1):bB m δ h=.ok ⟨xs,λ_=>true⟩ h1:=by unfold bB;rw[e];rfl
def cP{α:Type}{ys:k_ α}{emb:α->PV}(f:α->l7 PV)(e:Zk h=.ok (.ref n) h1)(H:h1[n]?=a8 (.lst (γk 0)))(hz:ys.l<=16777216)(s:∀y∈ys,∃z,tg (emb y) (γe 0)=a8 z/\∀h,YQ h->match f y with
   |none=>tst z h=.ok false h
   |some p=>tst z h=.ok true h/\elt z h=.ok p h):bK js (bB m) tg tst elt δ h=.ok (.ref h1.l) (h1++[.lst (εm 0)]):=
 lN f (Dr e H) (zL H) hz s
def Im{α:Type}{ys:k_ α}{emb:α->PV}(f:α->l7 PV)(e:Zk h=.ok (.tup (γk 0)) h1)(hz:ys.l<=16777216)(s:∀y∈ys,∃z,tg (emb y) (γe 0)=a8 z/\∀h,YQ h->match f y with
   |none=>tst z h=.ok false h
   |some p=>tst z h=.ok true h/\elt z h=.ok p h):bK js (bB m) tg tst elt δ h=.ok (.ref h1.l) (h1++[.lst (εm 0)]):=
 lN f (JP e) (λ_ _=>rfl) hz s
def Ds(lo):∀n,upTo lo n=(xf n).map (λ(i:Nat)=>PV.int<|lo+(i))
 |0=>rfl
 |n+1=>by
  rw[upTo,Ds _ n,List.range_succ_eq_map,wq,w9];congr 1
  ·simp
  ·apply y4;intro a _;congr 1;omega
def Dt{j:Int}(f:Nat->l7 PV)(e:Yh h=.ok [.int j] h1)(hj:-4611686018427387904<=j/\j<16777216)(step:∀i:Nat,(i)<j->∃δ1,tg (.int i) (γe 0)=a8 δ1/\∀h,YQ h->match f i with
   |none=>tst δ1 h=.ok false h
   |some p=>tst δ1 h=.ok true h/\elt δ1 h=.ok p h):bK js (tU ms) tg tst elt δ h=.ok (.ref h1.l) (h1++[.lst ((xf j.toNat).filterMap f)]):=by
 show lN (emb:=λi:Nat=>.int<|(0)+i) f ?_ (λ_ _=>rfl) (by simp;omega)<|λi hi=>?_
 ·unfold tU;rw[e];let i:-(2 ^ 62)<=j/\j<2 ^ 62:=⟨hj.1,⋯⟩;simp only[Rs.bind_ok,Gn,if_pos i];rw[Ds]
 ·let hi':=Wi.mp hi;rw[Int.zero_add];show step i ⋯
def filterMap_some{α β:Type}(f:α->β)(xs:k_ α):xs.filterMap (λx=>a8<|f x)=xs.map f:=by
 induction xs with
 |nil=>rfl
 |cons x xs i=>simp[i]
end
variable{kvs:k_ (PV×PV)}
section
variable{σ:St}
mutual
theorem zM(I:u_ s)(hK:X.K=C.K):∀(n:Nat){p:PV}{v:V}{u:gV},p.ky n=true->YW v->Yi u->XX p u
 |_,.int i,v,u,_,r,ru=>by cases r;show ru
 |_,.str i,v,u,_,r,ru=>by cases r;show ru
 |n+1,.tup ps,v,u,hk,r,ru=>by
  let(a,vs,rfl,q,rs):=r;cases ru
  rw[<-hK]at q;let(its,rv,p,_):=I.tuple q;show(a,its,rfl,p,xM I hK n (we.mp hk) rs rv)
 |0,.tup _,_,_,hk,_,_=>by cases hk
 |n,.non,_,_,hk,_,_=>by cases n <;> cases hk
 |n,.bl _,_,_,hk,_,_=>by cases n <;> cases hk
 |n,.ref _,_,_,hk,_,_=>by cases n <;> cases hk
 |n,.ty _,_,_,hk,_,_=>by cases n <;> cases hk
 |n,.fl _,_,_,hk,_,_=>by cases n <;> cases hk
theorem xM(I:u_ s)(hK:X.K=C.K):∀(n:Nat){ps:E_ 0}{vs:k_ V}{us:YX 0},(∀p∈ps,p.ky n=true)->p5 ps vs->β3 0->βM ps us
 |_,[],[],us,_,_,ru=>by cases ru;trivial
 |n,p::ps,v::vs,us,hk,r,ru=>by
  cases ru with
  |cons h t=>exact⟨zM I hK n (hk p vo) r.1 h,xM I hK n (λq hq=>hk q (εs hq)) r.2 t⟩
 |_,[],_::_,_,_,r,_=>r.elim
 |_,_::_,[],_,_,r,_=>r.elim
end
@[reducible]def Du:k_ (PV×h_×V)->k_ (PV×h_×gV)->Prop:=Paired λp q=>p.1=q.1/\p.2.1=q.2.1/\RelV p.2.2 q.2.2
abbrev HD(C:MC)(φ:k_ h_)(H:Hp)(X:Cx)(s:g_)(a:h_)(kvs:k_ (PV×PV)):Prop:=
 ∃ks xs,ζE 0/\Du ks xs/\xs.l<=wa/\(a == zx)=false/\s.heap.DictOfH (γ1 0) a xs
abbrev aV(h:PH)(n:Nat):l7 (k_<|PV×PV):=match h[n]? with
 |some (.dD kvs)=>εR 0
 |some (.dK [])=>a8 []
 |_=>a9
abbrev PV.isKt:PV->Bool
 |.tup xs=>(α2 0).ky 6
 |_=>false
def xO(h:p.isKt=true):p.ky 6=true:=by cases p <;> first|exact h|cases h
def tW{v:V}(h:p.isKt=true)(r:YW v):∃b,v=.ref b:=by cases p <;> first|(let⟨b,_,e,_⟩:=r;show⟨b,e⟩)|exists h
open H in
def wK(I:u_ s)(W:X.K=C.K)(T:X.w=C.w)(Y:p7 h)(b:φ[n]?=a8 a)(e:Zr n=εR 0):HD C φ H X s a kvs/\Mut (H a)/\yT (H a):=by
 unfold aV at e;split at e
 ·rename_i V g
  exists e
  let(S,v,r):=Y.at' n a _ b g;let((N,M,F,f,o,E,P,k,j,i,c,p),_):=βq v;show(⟨S,F,r,f,by rw[<-yr f];show N,M,o,E,P,k,j,i,?_,?_,p⟩,by rw[v];show Vt,by rw[v];show Vt)
  ·rw[c,<-T];rfl
  ·let A:∀{l:k_ _}{m:k_ _}{z:k_ _},YF l m->Du m z->∀x∈z,(γ1 0).is s.heap x.1 x.2.1:=by
    intro l m z q
    induction q generalizing z with
    |nil=>intro d x u;cases d;cases u
    |cons Q t L=>
     intro d x u;cases d with
     |cons Z J=>
      rcases v8.mp u with e|u
      ·subst e;show(?_,?_)
       ·rw[<-Z.1,<-Q.1];show Q.2.1
       ·rw[<-Z.1,<-Q.1,<-Z.2.1];show zM I W 6 Q.2.1 Q.2.2.1 rfl
      ·show L J x u
   show A r f
 ·rename_i g;cases e
  let(S,v,r):=Y.at' n a _ b g;have:S=[]:=by cases r;rfl
  subst this;let(z,D,G,R,o,E,P,k,j,i,c,p,B):=γs v;have:G=[]:=by cases R;rfl
  subst this;show(⟨[],[],.nil,.nil,w6 _,D,o,E,P,k,j,i,?_,(λx u=>nomatch u),W6⟩,by rw[v];show Vt,by rw[v];show Vt);cases U:E.toList with
  |nil=>rfl
  |cons y O=>rw[U]at p;cases p
 ·exists e
def HD.val{a:h_}{ks:k_ (PV×h_×V)}{xs:k_ (PV×h_×gV)}(r:ζE 0)(R:Du ks xs)(k):match Zf k,(αY k).map (·.2) with
  |some p,a8 u=>∃v,Yi u/\YW v
  |none,a9=>True
  |_,_=>False:=by
 induction r generalizing xs with
 |nil=>cases R;trivial
 | @cons p q w m h t i=>
  cases R with
  | @cons n x Q S y T=>
   let(P,o):=p;by_cases e:P=k
   ·let E:=y.1.symm.trans<|h.1.symm.trans e;let b:atKey (x::S) k=a8 x.2:=by simp[atKey,E]
    rw[b];unfold aS;rw[αU 0];show A0 y.2.2 h.2.2.2
   ·let E:¬ x.1=k:=λz=>e<|h.1.trans<|y.1.trans z;let b:atKey (x::S) k=atKey S k:=by simp[atKey,E]
    rw[b];unfold aS;rw[Z4 0];show i T
abbrev dW{κ:Type}[αg 0](kvs:k_ (κ×PV))(k:κ)(p:PV):k_ (κ×PV):=if(Zf k).isSome then kvs.map (λkv=>if kv.1=k then(kv.1,p) else kv) else kvs++[(k,p)]
def HD.replace{a:h_}{ks:k_ (PV×h_×V)}{xs:k_ (PV×h_×gV)}(r:ζE 0)(n:Du ks xs)(k){v:V}(m:YW v)(U:Yi u):
  ∃K,YF (kvs.map λw=>if w.1=k then(w.1,p) else w) K/\Du K (xs.map<|putAt k u):=by
 induction r generalizing xs with
 |nil=>cases n;show I1b [] .nil .nil
 | @cons P q l g h t i=>
  cases n with
  | @cons j x Q S y T=>
   let(K,(R),o):=i T;by_cases e:P.1=k
   ·show((q.1,q.2.1,v)::K,.cons ?_ R,.cons ?_ o)
    ·simp[αU 0];show(h.1,h.2.1,h.2.2.1,m)
    ·unfold putAt;rw[if_pos<|y.1.symm.trans<|h.1.symm.trans e];show(y.1,y.2.1,U)
   ·show(q::K,.cons ?_ R,.cons ?_ o)
    ·simp[Z4 0];show h
    ·unfold putAt;rw[if_neg λz=>e<|h.1.trans<|y.1.trans z];show y
def HD.put{a b:h_}{ks:k_ (PV×h_×V)}{xs:k_ (PV×h_×gV)}(r:ζE 0)(x:Du ks xs){k:PV}(y:k.ky 6=true)(w:ia k (.ref b)){v:V}(R:YW v)(U:Yi u):
  ∃K,YF (dW kvs k p) K/\Du K (storedH xs k b u):=by
 let h:=HD.val (a:=b) r x k;unfold dW storedH;cases E:Zf k with
 |some P=>
  rw[E]at h;cases e:αY k with
  |none=>rw[e]at h;show h.elim
  |some z=>exact HD.replace (a:=b) r x k R U
 |none=>
  rw[E]at h;cases e:αY k with
  |some z=>rw[e]at h;show h.elim
  |none=>exact⟨ks++[(k,b,v)],γq<|I0d rfl y w R,Paired.snoc x ⟨rfl,rfl,U⟩⟩
def HD.isSome{ks:k_ (PV×h_×V)}{xs:k_ (PV×h_×gV)}(r:ζE 0)(x:Du ks xs)(k):(αY k).isSome=(Zf k).isSome:=by
 let h:=HD.val (a:=0) r x k;cases E:Zf k with
 |some p=>
  rw[E]at h;cases e:αY k with
  |none=>rw[e]at h;show h.elim
  |some z=>rfl
 |none=>
  rw[E]at h;cases e:αY k with
  |some z=>rw[e]at h;show h.elim
  |none=>rfl
def Dv(I:u_ s)(z:X.K=C.K){b:h_}(h:p.isKt=true)(r:YW (.ref b)):(γ1 0).is s.heap p b:=⟨xO h,zM I z 6 (xO h) r rfl⟩
end
def Cxt.room6{k:Nat}(c:A1 X):(γ1 0).room X.A.in1:=by
 have:=c.hu64
 change X.A.units+1+6<cLine
 omega
abbrev qS(x y:PV)(h:PH):l7 (l7 PV):=match y with
 |.ref n=>if x.isKt=true then(Zr n).map λkvs=>Zf x else a9
 |_=>a9
abbrev Dw(C:MC):V->V->Hp->(k_ h_->l7 PV->Prop)->Prop:=λx y H R=>∃φ h p n a kvs,p7 h/\YW x/\y=.ref a/\φ[n]?=a8 a/\Zr n=εR 0/\p.isKt=true/\R φ (Zf p)
open H in
def zN{q:PV}{x y:V}{o:l7 PV}{R:k_ h_->l7 PV->Prop}(z:p7 h)(w:YW x)(Y:ia q y)(e:qS p q h=a8 o)(r:R φ o):Dw C x y H R:=by
 unfold qS at e;cases q with
 |ref n=>
  let(a,rfl,A):=Y;dsimp only at e;split at e
  ·rename_i K;cases E:Zr n with
   |none=>rw[E]at e;exists e
   |some v=>rw[E]at e;exists e;show I6g φ h p n a v z w rfl A E K r
  ·exists e
 |_=>exists e
def N4{k:Nat}(c:A1 X):O_ (za .In) (λx y H Q=>Dw C x y H λ_ o=>Q (.bl o.isSome) H):=λN s g H x y v u Q I j Y h=>by let(f,h,p,n,a,V,(l),P,z0,A,t,z,q):=h;subst z0;subst Y;let(b,rfl):=tW z P;subst j;let((S,i,r,R,Z,m,d),_):=Z_ l A t;show wpAny_in_heap c.room6 (Dv I c.K z P) m d ?_;rw[HD.isSome r R p];show I2c (.bl _) H (YT 0) rfl q
def Fg{k:Nat}(c:A1 X):O_ (za .NotIn) (λx y H Q=>Dw C x y H λ_ o=>Q (.bl<|!o.isSome) H):=λN s g H x y v u Q I j Y h=>by let(f,h,p,n,a,V,(l),P,z0,A,t,z,q):=h;subst z0;subst Y;let(b,rfl):=tW z P;subst j;let((S,i,r,R,Z,m,d),_):=Z_ l A t;show wpAny_notIn_heap c.room6 (Dv I c.K z P) m d ?_;rw[HD.isSome r R p];show I2c (.bl _) H (YT 0) rfl q
def UP{k:Nat}(c:A1 X):εA (λx y H Q=>Dw C y x H λn o=>∃p,o=a8 p/\∀v:V,RV C n H p v->Q v H):=by
 intro e l u s σ H x y v u Q I N M h W;let(n,h,p,n,a,U,O,P,rfl,Y,T,i,B,Z,q):=h;subst N;let(b,rfl):=tW i P;subst M;let((D,L,r,j,G,J,d),_):=Z_ O Y T;let t:=HD.val (a:=a) r j p;rw[Z]at t;cases E:atKey L p with
 |none=>rw[E]at t;show t.elim
 |some z=>
  rw[E]at t;let(g,(R),m):=t;show eg <|eg<|Xf d.typeIs PySem.F.slot_dict_getitem.lookup ?_;let f:wpAny (c3 X) X.A (subscripted l false (.ref a)<|.ref b) (λr S=>wpAny (c3 X) X.A (letTemporaryGo e (.ref a) r >>= λ_=>pure r) (EP X u σ Q) X.xe S) X.xe s:=by rw[W];show wpAny_operating<|wpAny_getItem_heap c.room6 (Dv I c.K i P) d E<|eg<|wpAny_letTemporaryGo<|vh<|I2c g H (YT 0) R<|q g m
  first
   |exact vh (eg f)
   |exact eg (vh _)
   |exact eg f
abbrev vAt:PV->PV->PH->Yv 0:=λx y h=>match qS y x h with
 |some (a8 p)=>.ok p h
 |some a9=>.bad
 |none=>vIx x y h
def UQ{k:Nat}{a b:j_}(A:n_ a ma)(hb:n_ b mb)(S:Gb b:=by intro _ _;rfl):n_ (.Subscript a b pos) (o_ ma mb):=λc=>
 (Rv ((ixC c.hu C.K c.K).or<|UP c) (A c) (hb c) S).imp λm H Q h=>by
  let(s,z,h,(R),E,p):=Gi h;show I3c s z h R E<|p.imp ?_;show λv w z6=>E3c z6 λs z h R E p=>?_;show I3c s z h R E<|p.imp ?_;show λu t z8=>E4d z8 λs h p q R x y P=>?_;unfold vAt at P;cases e:qS q p h with
  |none=>rw[e]at P;show .inl<|S8<|I4d s h p q R x y P
  |some o=>
   rw[e]at P;cases o with
   |none=>exact P.elim
   |some r=>exact .inr<|zN R y x e ⟨r,rfl,λn V=>P.val R V⟩
abbrev B6(x y v:PV)(h:PH):l7 PH:=match x with
 |.ref n=>match xF y,h[n]? with
  |some key,a8 (.dK kvs)=>if kvs.l<wa then a8 (P_<|.dK<|dW kvs key v) else a9
  |some _,_=>a9
  |none,_=>if y.isKt=true then(match Zr n with
   |some kvs=>if kvs.l<wa then a8 (P_<|.dD<|dW kvs y v) else a9
   |none=>a9) else a9
 |_=>a9
def Fh{κ:Type}[αg 0]{kvs:k_ (κ×PV)}{ks:k_ (κ×V)}(r:XU kvs ks)(a:κ):(Zf a).isSome=(oA ks a).isSome:=by
 have:=Bt r a;cases E:Zf a with
 |none=>
  cases e:oA ks a with
  |none=>rfl
  |some v=>rw[E,e]at this;show this.elim
 |some p=>
  cases e:oA ks a with
  |none=>rw[E,e]at this;show this.elim
  |some v=>rfl
open H in
def zO{κ:Type}[αg 0]{kvs:k_ (κ×PV)}{ks:k_ (κ×V)}(r:XU kvs ks)(a:κ){v:V}(R:YW v):XU (dW kvs a p) (putK ks a v):=by
 unfold dW putK;rw[yM,Fh r a];split
 ·rename_i x;clear x
  induction r with
  |nil=>exact .nil
  | @cons P q S Q h t i=>
   show .cons ?_ i;by_cases e:P.1=a
   ·let E:=h.1.symm.trans e;simp[αU 0,if_pos E];show(h.1,R)
   ·let E:=λz=>e<|h.1.trans z;simp[Z4 0,if_neg E];show h
 ·show γq ⟨rfl,R⟩
variable{px py:PV}{xu yu:gV}
open H in
def Bz{k:Nat}{h':PH}{pv:PV}{x y v:V}(c:A1 X)(rh:p7 h)(rx:ia px x)(ry:ia py y)(rv:ia pv v)(e:B6 px py pv h=a8 h'){σ:St}{Q:εt 0}(I:u_ s)(qv:P2 xu)(m8:X_ yu)(jh:Yi vu)(q:∀s' H',εe s'->XT H'->YG φ H' h'->Q () s'):wpAny (c3 X) X.A (setItem xu yu vu) Q X.xe s:=by
 unfold B6 at e;cases px with
 |ref n=>
  let(a,rfl,ha):=rx;subst qv;dsimp only at e;split at e
  ·rename_i key kvs hkey hk;split at e
   ·rename_i hl
    exists e
    let(ks,hH,rk):=δV hk;let ey:y=kV key:=Fc ry hkey;subst ey;let tw:ks.l<wa:=by rw[<-yr rk];show hl
    show HB c.hu I (.k hH tw) m8 jh λs' I'=>q s' _ I' (Kp.dK hH) ?_;show rh.write ha (by rw[hH];show Vt)<|I1b _ aL ?_;show(zO rk key rv).mono vt (Kp.dK hH)
   ·exists e
  ·exists e
  ·split at e
   ·rename_i hk;split at e
    ·rename_i kvs ht;split at e
     ·rename_i hl
      exists e
      let(b,rfl):=tW hk ry;subst m8;let((ks,xs,r,k7,hz,hm,dd),mu,nt):=Z_ rh ha ht;show wpAny_setItem_heap (hsz:=hz) c.room6 (Dv I c.K hk ry) dd λh' du hs=>?_;let(mq,(r1),r2):=HD.put (a:=a) r k7 (xO hk) ry rv jh;let(o,es,ep,(hq),h2,h3,h4,_,h5):=du;let gg:mq.l<=wa:=by
       let e1:=yr r1;let e2:(dW kvs py pv).length<=kvs.l+1:=by
        unfold dW;split
        ·rw[vn];omega
        ·simp
       omega
      show q _ (Zt<|dDO C.w a mq) (tH I mu hs ⟨o,hq⟩ ⟨⟨gg,hm,_,r2,o,es,ep,hq,h2,h3,?_,h5⟩,⟨o,hq⟩,?_⟩) (Kp.upd nt) ?_
      ·rw[h4,<-c.w];rfl
      ·rintro g1 g2 ⟨z1,z2,ws,z3,o',es',ep',z4,z5⟩ keep;show(z1,z2,ws,z3,o',es',ep',keep _ z4,z5)
      ·show rh.write ha nt (I1b mq aL<|RKd.mono vt (Kp.upd nt) r1)
     ·exists e
    ·exists e
   ·exists e
 |_=>exists e
abbrev MtG(C:MC)(k:Nat)(X:Cx)(T:String)(ty:PV->PH->Bool)(id:String)(g:PV->E_ 0->PH->Yv 0):Prop:=A1 X->δn (rM C g)/\
 ∀c6 s σ H φ h p x v,u_ s->p7 h->YW x->P2 v->ty p h=true->εM T/\∀a,v=.ref a->∃ob,C_ 0=a8 ob/\ob.dict=a9
section
variable{k:Nat}
def SR{o:j_}{id:String}{g:PV->E_ 0->PH->Yv 0}(pa:γi 0)(t:αS 0)(Y:typeOf (.builtin id)=pure (.type "method_descriptor"))(M:γD T ty id g)(K:n_ o mo)(L:YN (e::es) ms)(b:wP (ZQ (Yl 0)=Yl 0) zn)(f:wP (((Y6 (wj (e::es) X.env)).all (λx=>!x.1)&&(δE (keywordEach [] X.env)).all (λx=>x.1.isSome)
   && decide ((e::es).length+([]:γj 0).length+(if([]:γj 0).isEmpty then 0 else 1)<30))=true) zn)(n:wP ((apos.endLine == ae.line)=true) zn)(J:wP (wj (e::es) X.env=(false,A5 0)::X2 0) zn)(l:wP ((Y6 (X2 0)).any (·.1)=false) zn):
  n_ (.Call (.Attribute o name apos) (e::es) [] ae) (mMt ty g mo ms):=λc i s y H Q I z0=>E3c z0 λφ Z h rh E p=>by
 show wpAny_Call_method_late b f n rfl<|thn (K c i s y H _ I<|I3c φ Z h rh E<|post.bind p) ?_;rintro v S ⟨x,m,j,a,z,P,d,D,t1,r,R,q⟩;let(F,q):=q.ite;let(G,O):=(M c).2 i S y m z d P x v j r R a F;show I2f T id pa t Y G O ?_;let A:=L c ae i S y m _ j<|I3c z Z d r (E.mono D t1)<|postA.bind q;rw[J]at A⊢;show Wp (show(false || (Y6 _).any (·.1))=false by rw[l];rfl) (Calls.evalArgs_plain<|thn A ?_);rintro us s2 ⟨vs,W,U,r2,u,ps,N,B,t2,w,V,q2⟩;show(M c).1 i s2 y W x vs v us Q U a r2 (I4d u N P ps w (R.mono B t2) V q2)
def Ov{o:j_}{id:String}{g:PV->E_ 0->PH->Yv 0}(a:γi 0)(t:αS 0)(y:typeOf (.builtin id)=pure (.type "method_descriptor"))(M:γD T ty id g)(O:n_ o mo)(b:wP (ZQ (Yl 0)=Yl 0) zn)(l:wP ((apos.endLine == ae.line)=true) zn):n_ (.Call (.Attribute o name apos) [] [] ae) (hV ty g mo):=λc i s w H Q I z0=>E3c z0 λW Y h Z E p=>by show wpAny_Call_method0_late b l<|thn (O c i s w H _ I<|I3c W Y h Z E<|post.bind p) ?_;rintro v S ⟨x,u,n,j,z,P,m,V,U,r,R,q⟩;let(d,q):=q.ite;let(G,f):=(M c).2 i S w u z m P x v n r R j d;show(T,id,a,t,y,G,f,Wp rfl<|PySem.evalArgs_none<|(M c).1 i S w u x [] v [] Q n j .nil<|I4d z m P [] r R trivial q)
abbrev cE(x:PV)(h:PH):Bool:=match x with
 |.ref n=>match h[n]? with
  |some (.dK _)=>true
  |some (.dD _)=>true
  |_=>false
 |_=>false
open H in
def zP(c:A1 X):∀i s m H q h p x v,Yq i m H s->YG q H h->RV C q H p x->P2 v->cE p h=true->εM "dict" /\ ∀a,v=.ref a->∃o,C_ 0=a8 o/\o.dict=a9:=by
 intro i s m H q h p x v I R j r e;unfold cE at e;cases p with
 |ref n=>
  let(a,rfl,A):=j;subst r;dsimp only at e;split at e
  ·rename_i V t;let(S,l,f):=δS A t;let(z,D,Y,L,d):=γs l;show(d.typeIs,λb E=>?_);cases E
   let(o,_,_,(y),u,_):=d;show(o,y,u.2.1)
  ·rename_i V t;let((S,W,r,g,Z,M,d),_):=Z_ R A (by unfold aV;rw[t]);show(d.typeIs,λb E=>?_);cases E
   let(o,_,_,(y),u,_):=d;show(o,y,u.2.1)
  ·exists e
 |_=>exists e
abbrev zQ:E_ 0->l7 (k_<|Key×PV)
 |[]=>a8 []
 |.tup [y,v]::r=>match xF y,zQ r with
  |some key,a8 rs=>a8 ((key,v)::rs)
  |_,_=>a9
 |_::_=>a9
abbrev JQ(kvs more:k_ (Key×PV)):k_ (Key×PV):=more.foldl (λacc kv=>dW acc kv.1 kv.2) kvs
def Fi:∀{more:k_ (Key×PV)}{ms:k_ (Key×V)}{kvs:k_ (Key×PV)}{ks:k_ (Key×V)},XU more ms->XU kvs ks->XU (JQ kvs more) (yQ ks ms):=by
 intro more ms kvs ks r
 induction r generalizing kvs ks with
 |nil=>intro q;show q
 | @cons p q s Q h t i=>intro R;let e:=zO R p.1 h.2;rw[show putK ks p.1 q.2=putK ks q.1 q.2 by rw[h.1]]at e;show i e
def Inv.tupleD{σ:St}{xs:k_ V}(I:u_ s)(h:βn a xs):∃i,ZK i/\wV s.heap a i.toArray/\xs.l<=wa:=by
 rcases h with h|⟨o,i,n,y,c,S,Z,r,d⟩
 ·let(z,i,r,p):=h.ok I.hok;show I1c i r p z
 ·show(i.toList,r,(I1d o (I.kIn a o y) c ⟨n,d0 S⟩ d),?_);rw[r.length];simpa using Z
def BA{c6:b_ 0}{σ:St}{H:Hp}{s:g_}{φ:k_ h_}(I:u_ s)(n:X.K=C.K):∀{ps:E_ 0}{rs:k_ (Key×PV)}{vs:k_ V}{us:YX 0},zQ ps=a8 rs->p5 ps vs->β3 0->
  ∃S:k_ (h_×Key×gV×gV),us=S.map (λq=>yg q.1)/\(∀q∈S,(γT 0).is q.2.1 q.2.2.1=true)/\(∀q∈S,Zv q.1 #[q.2.2.1,q.2.2.2])/\∃W,XU rs W/\KV W (S.map λq=>(q.2.1,q.2.2.2))
 |[],rs,[],us,e,_,R=>by
  cases R
  exists e
  show([],rfl,(λ_ h=>nomatch h),(λ_ h=>nomatch h),[],.nil,.nil)
 |p::ps,rs,v::vs,us,e,r,R=>by
  cases R with
  | @cons _ u _ U h t=>
   cases p with
   |tup O=>
    match O,e with
    |[y,z],e=>
     unfold zQ at e;cases x:xF y with
     |none=>rw[x]at e;exists e
     |some E=>
      cases o:zQ ps with
      |none=>rw[x,o]at e;exists e
      |some f=>
       rw[x,o]at e
       exists e
       let(S,rfl,a,A,W,l,j):=BA I n o r.2 t;let(b,J,(z2),m,B):=r.1;subst z2;subst h;let(G,L,(z1),d,c):=B.two;subst z1;rw[<-n]at m;let(T,(i),P,_):=I.tuple m;let(N,M,(z0),Y,Z):=vals2 i;subst z0;let g:=Fc d x;subst g;show((b,E,N,M)::S,rfl,?_,?_,(E,L)::W,.cons ⟨rfl,c⟩ l,.cons ⟨rfl,Z⟩ j)
       ·intro q Q;rcases v8.mp Q with rfl|Q
        ·show tG Y
        ·show a q Q
       ·intro q Q;rcases v8.mp Q with rfl|Q
        ·show P
        ·show A q Q
    |[],e=>exists e
    |[_],e=>exists e
    |_::_::_::_,e=>exists e
   |_=>exists e
 |[],_,_::_,_,_,r,_=>r.elim
 |_::_,_,[],_,_,r,_=>r.elim
abbrev wL:E_ 0->PH->Yv 0:=λxs h=>match xs with
 |[.tup ps]=>match zQ ps with
  |some rs=>.ok (.ref h.l) (h++[.dK<|JQ [] rs])
  |none=>.bad
 |[.ref n]=>match h[n]? with
  |some (.dK kvs)=>.ok (.ref h.l) (h++[.dK kvs])
  |_=>.bad
 |_=>.bad
open H in
def Q9:Zp (.type "dict") wL:=λc N s σ H xs us Q I r h=>by
 let(y,h,ps,(R),V,P):=h;unfold wL at P;split at P
 ·split at P
  ·rename_i rs e;let(v,rfl,(a,vs,rfl,sa,B)):=V.one;let(u,rfl,U):=εw 0;subst U;let S:=sa;rw[<-c.K]at S;let(O,i,(o,J,G,(n,F),E),hz):=Inv.tupleD I S;let(D,rfl,q,m,w,l,A):=BA I c.K e B i;let T:D.l<=wa:=by have:=i.l;rw[vn]at this;omega
   show xD (Zh 0) J G F E q m T λh' tk d M=>?_;let Z:(yQ [] w).length<=wa:=by let j:=qT w [];let g:=KV.length A;rw[vn]at g;simp at j;omega
   let f:=I.fresh;show I2c (.ref _) _ (I.laid M (vk _)<|yO Z (beq_eq_false_iff_ne.mpr<|xy<|wc I.big) (A.merge .nil) d) rfl ?_;show P _ _ _ (ζn _) (Kp.new f) (R.new f<|I1b _ aL<|(Fi l (.nil:RKv C y H [] [])).mono (ζn _)<|Kp.new f) ⟨_,rfl,by rw[<-R.len];simp⟩
  ·show P.elim
 ·rename_i n;split at P
  ·rename_i L W;let(v,rfl,(a,rfl,Y)):=V.one;let(u,rfl,U):=εw 0;subst U;let(ks,(b),x):=δS Y W;show Jf I (.inl b) λp s' z t=>I2c (.ref p) _ t rfl ?_;show P _ _ _ (ζn _) (Kp.new z) (R.new z<|I1b _ aL<|x.mono (ζn _)<|Kp.new z) ⟨_,rfl,by rw[<-R.len];simp⟩
  ·show P.elim
 ·show P.elim
end
abbrev kP:Key->PV
 |.inl i=>.int i
 |.inr x=>.str x
@[simp]theorem U2(a:Key):xF (kP a)=a8 a:=by cases a <;> rfl
abbrev Gv:E_ 0->l7 (γ7 0)
 |[]=>a8 []
 |x::xs=>match xF x,Gv xs with
  |some a,a8 r=>a8 (a::r)
  |_,_=>a9
@[simp]theorem JR:∀ks:γ7 0,Gv (ks.map kP)=a8 ks
 |[]=>rfl
 |a::ks=>by simp[Gv,JR ks]
abbrev tP(ks:γ7 0):PV:=.tup<|ks.map kP
abbrev BB:E_ 0->l7 (k_<|k_ Key)
 |[]=>a8 []
 |.tup xs::r=>match Gv xs,BB r with
  |some a,a8 b=>a8 (a::b)
  |_,_=>a9
 |_::_=>a9
@[simp]theorem zR:∀ks:k_ (γ7 0),BB (ks.map tP)=a8 ks
 |[]=>rfl
 |a::ks=>by simp[BB,tP,zR ks]
abbrev zS(kss:k_ (γ7 0)):Bool:=match kss with
 |[]=>true
 |a::r=>(!a.isEmpty)&&r.all λx=>shape x == shape a
variable{kss:k_ (γ7 0)}
def Fj(h:zS kss=true):∃b S,∀s∈kss,shape s=b::S:=by
 cases kss with
 |nil=>exact I2a true [] λ_ h=>nomatch h
 |cons a r=>
  unfold zS at h;rw[wy]at h;cases a with
  |nil=>cases h.1
  |cons z Z=>
   show I2a (Gd z) (shape Z) λs k=>?_;rcases v8.mp k with rfl|k
   ·rfl
   ·have:=we.mp h.2 s k;show eq_of_beq this
def RH.same(r:p7 h)(s:wX H H1):YG φ H1 h:=⟨r.len,r.nd,λn b o z y=>by let q:=r.at' n b o z y;let(u,U):=q.some;show q.stay vt (Kp.same s)<|(s _ _ U).trans U.symm⟩
open PySem
@[simp]theorem R4{x:PV}:qS x (.str z) h=a9:=(rfl)
@[simp]theorem SS{i:Int}:qS (.int i) y h=a9:=by cases y <;> rfl
@[simp]theorem SU{i:Str}:qS (.str i) y h=a9:=by cases y <;> rfl
@[simp]theorem U3:vAt (.str z) y h=vIx (.str z) y h:=by unfold vAt;simp
@[simp]theorem U4{x:PV}{i:Int}:vAt x (.int i) h=vIx x (.int i) h:=by unfold vAt;simp
@[simp]theorem U5{x:PV}{i:Str}:vAt x (.str i) h=vIx x (.str i) h:=by unfold vAt;simp
def zT{kvs:k_ (Key×PV)}(e:h[n]?=a8 (.dK kvs)):cE (.ref n) h=true:=by unfold cE;simp[e]
def N5{kvs:k_ (Key×PV)}{z:PV}(e:h[n]?=a8 (.dK kvs))(c:kvs.l<16777216):B6 (.ref n) (.str x) z h=a8 (P_<|.dK<|dW kvs (.inr x) z):=by simp[B6,e,xF,c]
def zU{κ:Type}[αg 0](kvs:k_ (κ×PV))(a:κ)(p:PV):(dW kvs a p).length<=kvs.l+1:=by
 unfold dW;split
 ·rw[vn];omega
 ·simp
abbrev jU(h:PH)(d:Nat):l7 (E_ 0):=match h[d]? with
 |some (.dK kvs)=>a8 (kvs.map (·.2))
 |some (.dD kvs)=>a8 (kvs.map (·.2))
 |_=>a9
def zV{K:Type}[DecidableEq K]{knd:KeyKind prog w K}{es:k_ Xc}{kvs:k_ (K×gV)}(h:Pairs knd es kvs):es.map (·.val)=kvs.map (·.2):=by
 apply Vy;intro i;rw[wm,wm];let l:=h.l;by_cases I:i<es.l
 ·let e:es[i]?=a8 es[i]:=by simp
  let H:i<kvs.l:=⋯;let E:kvs[i]?=a8 (kvs[i].1,kvs[i].2):=by simp[H]
  rw[e,E];show αW (h.get? e E).2
 ·rw[VW ⋯,VW ⋯];rfl
open H in
def zW{k:Nat}{σ:St}{d:Nat}{b:h_}(c:A1 X)(I:u_ s)(a:p7 h)(hb:φ[d]?=a8 b)(e:jU h d=a8 xs):
  s.TypeIs (.ref b) "dict" /\ (b == zx)=false/\xs.l<=wa/\∃o E p,tx 0=a8 o/\o.data=.dict E p/\∃W,p5 xs W/\aO W (E.toList.map (·.val)):=by
 unfold jU at e;split at e
 ·rename_i v y
  exists e
  let(S,(j),f):=a.at' d b _ hb y;let(z,V,U,R,D):=γs j;show I0d D.typeIs V (by rw[vn,yr f];show z) ?_;let(o,E,p,u,Y,n,g,G,m):=D;show(o,E,p,u,n,S.map (·.2),?_,?_)
  ·clear y j R z
   induction f with
   |nil=>trivial
   |cons q t i=>exact⟨q.2,i⟩
  ·rw[zV G];clear y j g G m z;clear f
   induction R with
   |nil=>exact .nil
   |cons q t i=>exact .cons q.2 i
 ·rename_i v y
  exists e
  let T:Zr d=a8 v:=by unfold aV;rw[y]
  let((S,Q,r,x,Z,M,D),_):=Z_ a hb T;let l:=(yr r).trans<|yr x;show I0d D.typeIs M (by rw[vn,l];show Z) ?_;let(o,E,p,u,Y,n,g,G,m):=D;show(o,E,p,u,n,S.map (·.2.2),?_,?_)
  ·clear y T x l
   induction r with
   |nil=>trivial
   |cons q t i=>exact⟨q.2.2.2,i⟩
  ·rw[g];clear y T r l Z g G m
   induction x with
   |nil=>exact .nil
   |cons q t i=>exact .cons q.2.2 i
 ·exists e
abbrev zX:PV->E_ 0->PH->Yv 0:=λx ps h=>match x,ps with
 |.ref n,[]=>match jU h n with
  |some _=>.ok (.ref h.l) (h++[.vw 1 n])
  |none=>.bad
 |_,_=>.bad
open H in
def m_values{k:Nat}:γD "dict" cE "dict.values" zX:=λc=>⟨λi s g H x S v U Q I t w h=>by
 let(q,h,p,j,(r),z,R,P):=h;unfold zX at P;split at P
 ·split at P
  ·rename_i Y y;let(a,rfl,A):=z;have:S=[]:=by cases S <;> first|rfl|exact R.elim
   subst this;subst t;cases w
   let((T),m,_):=zW c I r A y;show call_meetsIn PySem.F.slot_dict_values T PySem.F.entry_dict_values (PySem.F.args_dict_values_1 _) (C8 a m) ⟨T,?_⟩;let f:=I.fresh;show I2c (.ref _) _ (I.laid (o:=Gh 1 (b7 s) a) (λb u e=>X4 e) (vk _) ?_) rfl ?_
   ·show((βw (YU rfl) rfl rfl),⟨_,YU rfl⟩,λn l z0 k=>E1b z0 λo e p=>(ZX (k o e) p))
   ·show P _ _ _ (ζn _) (Kp.new f) (r.new f<|I1b a (dG (ζn _) A) aL) ⟨_,rfl,by rw[<-r.len];simp⟩
  ·show P.elim
 ·show P.elim,zP c⟩
abbrev eX(h:PH)(n:Nat):l7 (E_ 0):=match h[n]? with
 |some (.vw 1 d)=>jU h d
 |_=>a9
abbrev vB:E_ 0->PH->Yv 0:=λxs h=>match xs with
 |[.ref n]=>match eX h n with
  |some ys=>.ok (.ref h.l) (h++[.lst ys])
  |none=>Dp xs h
 |_=>Dp xs h
variable{acc:K_ 0}
def Dx{es:ε8 0}(h:ItemsOf (λi v=>∃e,es[i]?=a8 e/\v=e.val) acc es.size):acc.toList=es.toList.map (·.val):=by
 apply Vy;intro i;rw[wm,VB,VB];by_cases I:i<acc.size
 ·let E:acc[i]?=a8 acc[i]:=by simp
  let(e,(H),z):=h.2 i _ E;rw[E,H,z];rfl
 ·let y:¬ i<es.size:=by rw[<-h.1];show I
  rw[yj ⋯,yj ⋯];rfl
def Fk{k:Nat}(c:A1 X):δA (.type "list") (λS H Q=>∃(y:k_ h_)(h:PH)(n:Nat)(a:h_)(d:Nat)(b:h_)(Y:E_ 0),S=[.ref a]/\YG y H h/\y[n]?=a8 a/\y[d]?=a8 b/\H a=a8 (Gh 1 a b)/\jU h d=a8 Y/\∀l w,H l=a9->βU y H Y w->Q (.ref l) (x_ l<|.lst w)):=by
 intro p s D H S F Q I r h;let(y,h,n,a,d,b,Y,(z0),i,O,B,m,t,q):=h;subst z0;let(u,rfl,U):=εw 0;subst U;let(T,M,Z,L,e,P,g,G,w,R,x):=zW c I i B t;let N:e.size<=wa:=by
  let E:w.l=e.size:=by have:=x.l;simpa using this
  rw[<-E,<-R.length];show Z
 show PySem.W.kdl_call (Dg G) (Zh 0) ⟨(βq m).1,g⟩ N λf J A v K j z=>?_;show I2c (.ref _) _ (I.laid (o:=.lst w) K (vk _) ⟨?_,A.toList,v,by rw[Dx z];show x,by rw[Array.toArray_toList];show j⟩) rfl<|q _ w I.fresh R;rw[<-R.length];show Z
open H in
def N6{k:Nat}:Zp (.type "list") vB:=λc=>cF.imp (cF.or (PF c)<|Fk c) λS H Q h=>by
 let(z,h,P,r,R,p):=h;unfold vB at p;split at p
 ·rename_i n;split at p
  ·rename_i s e;unfold eX at e;split at e
   ·rename_i d V;let(v,rfl,(a,rfl,A)):=R.one;let(b,(B),y):=Z1 A V;show .inr<|I7g z h n a d b s rfl r A B y e λl W L w=>p.lnew r w L
   ·exists e
  ·show .inl (γE p)
 ·show .inl (γE p)
def jV(e:h[n]?=a8 (.dK [])):Zr n=a8 []:=by simp[aV,e]
def eY(e:h[n]?=a8 (.dD kvs)):Zr n=εR 0:=by simp[aV,e]
open PySem.SeqAt PySem.W
abbrev zY(l:Z5 0):YV 0:=l.map (λ(c:Nat)=>(c:Int)+2)++[1]
mutual
def enc:PV->YV 0
 |.int i=>[i]
 |.str x=>zY x.cps.toList
 |.tup xs=>tX xs
 |_=>[]
def tX:E_ 0->YV 0
 |[]=>[0]
 |x::xs=>1::(enc x++tX xs)
end
def R5(a)(l):zY (a::l)=((a:Int)+2)::zY l:=rfl
def Gw:∀(a b)(s t),a≠b->((zY a++s<zY b++t)↔a<b)
 |[],[],_,_,h=>(h rfl).elim
 |[],b::B,s,t,_=>by
  change(1::s<((b:Int)+2)::(zY B++t))↔_
  rw[zg];constructor
  ·intro _;show List.nil_lt_cons _ _
  ·intro _;left;omega
 |a::A,[],s,t,_=>by
  change(((a:Int)+2)::(zY A++s)<1::t)↔_
  constructor
  ·rintro(h|⟨h,_⟩) <;> omega
  ·intro h;show(List.not_lt_nil _ h).elim
 |a::A,b::B,s,t,h=>by
  change(((a:Int)+2)::(zY A++s)<((b:Int)+2)::(zY B++t))↔_
  rw[zg,zg];by_cases e:a=b
  ·subst e;let i:=Gw A B s t (λz=>h<|by rw[z]);constructor
   ·rintro(H|⟨_,H⟩)
    ·omega
    ·show .inr ⟨rfl,i.mp H⟩
   ·rintro(H|⟨_,H⟩)
    ·omega
    ·show .inr ⟨rfl,i.mpr H⟩
  ·constructor
   ·rintro _ <;> (left;omega)
   ·rintro(H|⟨H,_⟩)
    ·left;omega
    ·show(e H).elim
def Fm:∀(n:Nat)(x y:PV)(c:Bool)(s t:YV 0),x≠y->ζv y=a8 c->((enc x++s<enc y++t)↔c=true):=by
 intro n;let o:∀(a b:Int)(c:Bool)(s t:YV 0),PV.int a≠.int b->a8 (decide (a<b))=a8 c->(([a]++s < [b]++t)↔c=true):=λa b c s t h e=>by
  exists e
  change(a::s<b::t)↔_
  rw[zg,decide_eq_true_eq];constructor
  ·rintro(H|⟨H,_⟩)
   ·show H
   ·show((λz=>h<|by rw[z]) H).elim
  ·intro H;show .inl H
 let w:∀(a b:Str)(c:Bool)(s t:YV 0),PV.str a≠.str b->a8 (decide (a.cps.toList<b.cps.toList))=a8 c->((zY a.cps.toList++s<zY b.cps.toList++t)↔c=true):=λa b c s t h e=>by
  exists e
  rw[Gw _ _ s t<|λz=>h<|by rw[Ge z],decide_eq_true_eq]
 induction n with
 |zero=>intro x y c s t h e;cases x <;> cases y <;> first|exact o _ _ c s t h e|exact w _ _ c s t h e|(simp[ltP]at e)
 |succ n I=>
  let i:∀(X Y:E_ 0)(c:Bool)(s t:YV 0),X≠Y->ltL (ltP n) X Y=a8 c->((tX X++s<tX Y++t)↔c=true):=by
   intro X
   induction X with
   |nil=>
    intro Y c s t h e;cases Y with
    |nil=>exact(h rfl).elim
    |cons y Y=>
     exists e
     change(0::s<1::((enc y++tX Y)++t))↔_
     rw[zg];constructor
     ·intro _;rfl
     ·intro _;left;omega
   |cons x X r=>
    intro Y c s t h e;cases Y with
    |nil=>
     exists e
     change(1::((enc x++tX X)++s)<0::t)↔_
     rw[zg];constructor
     ·rintro(H|⟨H,_⟩) <;> omega
     ·intro H;exists H
    |cons y Y=>
     change(1::((enc x++tX X)++s)<1::((enc y++tX Y)++t))↔_
     let E:(if x=y then ltL (ltP n) X Y else ltP n x y)=a8 c:=e;rw[zg,Vw,Vw];let k:(enc x++(tX X++s)<enc y++(tX Y++t))↔c=true:=by
      by_cases v:x=y
      ·rw[if_pos v]at E;subst v;have:=r Y c s t (λz=>h<|by rw[z]) E;rw[<-this];let u:∀l:YV 0,(l++(tX X++s)<l++(tX Y++t))↔(tX X++s<tX Y++t):=λl=>by
        induction l with
        |nil=>exact Iff.rfl
        |cons a l I=>
         change(a::(l++_)<a::(l++_))↔_
         rw[zg,I];constructor
         ·rintro(H|⟨_,H⟩)
          ·omega
          ·show H
         ·intro H;show .inr ⟨rfl,H⟩
       show u _
      ·rw[if_neg v]at E;show I x y c _ _ v E
     rw[k];constructor
     ·rintro(H|⟨_,H⟩)
      ·omega
      ·show H
     ·intro H;show .inr ⟨rfl,H⟩
  intro x y c s t h e;cases x <;> cases y <;> first|exact o _ _ c s t h e|exact w _ _ c s t h e|(simp[ltP]at e;done)|exact i _ _ c s t (λz=>h<|by rw[z]) e
abbrev ltN(x y:PV):Bool:=decide (enc x<enc y)
def Dy{f:PV->PV->β9 0}:∀s,ltL f s s=γL 0
 |[]=>rfl
 |x::s=>by
  change(if x=x then ltL f s s else f x x)=γL 0
  rw[if_pos rfl];show Dy s
def JS{x:PV}{c:Bool}(h:ζv x=a8 c):c=false:=by
 let s:∀{z:Str}{c:Bool},a8 (decide (z.cps.toList<z.cps.toList))=a8 c->c=false:=λ{z c} e=>by
  cases e
  show decide_eq_false<|List.lt_irrefl _
 let t:∀{z:Int}{c:Bool},a8 (decide (z<z))=a8 c->c=false:=λ{z c} e=>by
  cases e
  show decide_eq_false<|Int.lt_irrefl _
 cases n with
 |zero=>
  cases x with
  |int i=>exact t h
  |str i=>exact s h
  |_=>simp[ltP]at h
 |succ n=>
  cases x with
  |tup X=>
   let H:ltL _ X X=a8 c:=h;rw[Dy]at H;cases H
   rfl
  |int i=>exact t h
  |str i=>exact s h
  |_=>simp[ltP]at h
def N7(x:PV):ltN x x=false:=decide_eq_false<|List.lt_irrefl _
def Fo{x:PV}{c:Bool}(h:ζv y=a8 c):ltN x y=c:=by
 by_cases e:x=y
 ·subst e;rw[JS h];show N7 x
 ·have:=Fm n x y c [] [] e h;rw[Vh,Vh]at this;cases c with
  |true=>exact decide_eq_true<|this.mpr rfl
  |false=>exact decide_eq_false λz=>by cases this.mp z
def N8{x:PV}{c:Bool}(h:ζv y=a8 c)(e:enc x=enc y):x=y:=by
 by_cases X:x=y
 ·show X
 ·let H:=Fm n x y c [0] [1] X h;let z:=Fm n x y c [1] [0] X h;rw[e]at H z;let u:∀(l s t:YV 0),(l++s<l++t)↔(s<t):=λl s t=>by
   induction l with
   |nil=>exact Iff.rfl
   |cons a l i=>
    change(a::(l++_)<a::(l++_))↔_
    rw[zg,i];constructor
    ·rintro(H|⟨_,H⟩)
     ·omega
     ·show H
    ·intro H;show .inr ⟨rfl,H⟩
  rw[u]at H z;let T:¬ ([1]:YV 0) < [0]:=by decide
  show(T<|z.mpr<|H.mp<|by decide).elim
def Fp{a b c:PV}(h1:ltN b a=false)(h2:ltN c b=false):ltN c a=false:=decide_eq_false<|XJ.mpr<|List.le_trans (XJ.mp<|of_decide_eq_false h1)<|XJ.mp<|of_decide_eq_false h2
def Fq{a b:PV}(h:ltN a b=true):ltN b a=false:=decide_eq_false<|List.lt_asymm<|of_decide_eq_true h
def Qa{a b:PV}(h1:ltN a b=false)(h2:ltN b a=false):enc a=enc b:=List.le_antisymm (XJ.mp<|of_decide_eq_false h2)<|XJ.mp<|of_decide_eq_false h1
section
variable{α:Type}(key:α->PV)
abbrev rR(x:α):k_ α->k_ α
 |[]=>[x]
 |y::ys=>if ltN (key y) (key x) then y::rR x ys else x::y::ys
abbrev eZ:k_ α->k_ α
 |[]=>[]
 |x::xs=>rR key x (eZ xs)
def vC(x:α):∀s,(rR key x s).Perm (x::s)
 |[]=>.refl _
 |y::s=>by
  unfold rR;split
  ·show((vC x s).cons y).trans (.swap x y s)
  ·show .refl _
def eJ:∀s,(eZ key s).Perm s
 |[]=>.refl _
 |x::s=>(vC key x _).trans ((eJ s).cons x)
open H in
def wM(x:α):∀{ys:k_ α},ys.Pairwise (λa b=>ltN (key b) (key a)=false)->(rR key x ys).Pairwise (λa b=>ltN (key b) (key a)=false)
 |[],_=>εE _
 |y::ys,h=>by
  unfold rR;rw[Vn]at h;split
  ·rename_i t;rw[Vn];show(λz H=>?_,wM x h.2);rcases v8.mp ((vC key x ys).mem_iff.mp H) with rfl|H
   ·show Fq t
   ·show h.1 z H
  ·rename_i t;let l:ltN (key y) (key x)=false:=by simpa using t
   rw[Vn];show(λz H=>?_,Vn.mpr h);rcases v8.mp H with rfl|H
   ·show l
   ·show Fp l (h.1 z H)
def mT:∀s,(eZ key s).Pairwise (λa b=>ltN (key b) (key a)=false)
 |[]=>.nil
 |x::s=>wM key x (mT s)
def vD{xs ys:k_ α}(i:∀a∈xs,∀b∈xs,enc (key a)=enc (key b)->a=b)(p:ys.Perm xs)(h:ys.Pairwise (λa b=>ltN (key b) (key a)=false)):ys=eZ key xs:=by show XD (λa b A B H z=>?_) h (mT key xs)<|p.trans (eJ key xs).symm;show i a (p.mem_iff.mp A) b ((eJ key xs).mem_iff.mp B)<|Qa z H
end
def Fs:∀{xs:E_ 0}{ds:k_ D},PV.ds xs=a8 ds->xs.l=ds.l
 |[],ds,h=>by exists h;rfl
 |x::xs,ds,h=>by let(d,r,(_),H,z0):=cW h;subst z0;simp[Fs H]
def JT:∀{xs:E_ 0}{ds:k_ D}{j:Nat}{d:D},PV.ds xs=a8 ds->ds[j]?=a8 d->∃x,xs[j]?=a8 x/\x.d=a8 d
 |[],ds,j,d,h,e=>by exists h;simp at e
 |x::xs,ds,j,d,h,e=>by
  let(z,r,(H),w,z0):=cW h;subst z0;cases j with
  |zero=>
   have:z=d:=by simpa using e
   show I1b x rfl (by rw[H,this])
  |succ j=>
   let(y,(a),b):=JT w<|d0 e;show I1b y (d0 a) b
def oO:∀(n)(p:PV),p.ky n=true->p.pl n=true:=by
 intro n
 induction n with
 |zero=>intro p h;cases p <;> first|rfl|cases h
 |succ n i=>
  intro p h;cases p with
  |tup x=>
   change x.all _=true
   rw[we];show λy H=>i y (we.mp (show x.all _=true from h) y H)
  |_=>first|rfl|cases h
def Qb:∀(n:Nat){A:i_}{s:g_}{p q:PV}{v u:gV}{b:Bool},p.ky n=true->q.ky n=true->A.units+n<cLine->XX p v->XX q u->ltP n p q=a8 b->εQ b:=by
 intro n;let N:∀{A:i_}{s:g_}{i j:Int}{v u:gV}{b:Bool},XX (.int i) v->XX (.int j) u->a8 (decide (i<j))=a8 b->εQ b:=λ{A s i j v u b} r R e=>by
  let(t,rfl):=r;let(t',rfl):=R
  exists e
  show λo w E Q q=>(PyProof.Rows.lt_int q:wpAny (model o w) A (za .Lt _ _) Q E s)
 let W:∀{A:i_}{s:g_}{i j:Str}{v u:gV}{b:Bool},XX (.str i) v->XX (.str j) u->a8 (decide (i.cps.toList<j.cps.toList))=a8 b->εQ b:=λ{A s i j v u b} r R e=>by
  let(t,rfl):=r;let(t',rfl):=R
  exists e
  show λo w E Q q=>(PyProof.Rows.lt_str q:wpAny (model o w) A (za .Lt _ _) Q E s)
 induction n with
 |zero=>
  intro A s p q v u b h k hu r R e;cases p with
  |int i=>
   cases q with
   |int j=>exact N r R e
   |_=>simp[ltP]at e
  |str i=>
   cases q with
   |str j=>exact W r R e
   |_=>simp[ltP]at e
  |_=>exists h
 |succ n ih=>
  intro A s p q v u b h k hu r R e;cases p with
  |int i=>
   cases q with
   |int j=>exact N r R e
   |_=>simp[ltP]at e
  |str i=>
   cases q with
   |str j=>exact W r R e
   |_=>simp[ltP]at e
  |tup ps=>
   cases q with
   |tup qs=>
    let(a,S,rfl,p1,X):=r;let(a',I,rfl,p2,z):=R;let(d,(C),_):=JN (n+1) _<|oO _ _ h;let(d',(H),_):=JN (n+1) _<|oO _ _ k;let l:=Ou (n+1) _ _ d d' (oO _ _ h) (oO _ _ k) C H;rw[e]at l;let(V,G,rfl):=cH C;let(P,B,rfl):=cH H;let((cls,dd,X,sl),g,t,m,T):=id p1;let((C,f,g,L),O,c,m2,D):=id p2;simp only at t T c D;subst t T c D;intro o w E Q Z;show richCompare_meets_room (op:=.Lt) ⟨_,g,rfl⟩ ⟨_,O,rfl⟩ PySem.F.slot_tuple_lt PySem.F.entry_tuple_lt (PySem.F.args_tuple_lt_2 _ _) (Ci a a' S.toArray I.toArray m m2 dd f sl L V P b<|by simpa[ltD] using l)
     ⟨g,O,⟨?_,?_,?_⟩,show Value.bool b≠Value.notImplemented/\Q (.bool b) s from⟨(λx=>nomatch x),Z⟩⟩ ⋯
    ·let l1:=X.l;let l2:=Fs G
     change S.l=V.l
     omega
    ·let l1:=z.l;let l2:=Fs B
     change I.l=P.l
     omega
    ·intro j v u d e h1 h2 h3 h4;let(x,(a),M):=JT G h3;let(y,(m),J):=JT B h4;let(v',(hv),f):=X.at a;let(u',(hu'),L):=z.at m;let e1:v=v':=by simp_all
     let e2:u=u':=by simp_all
     subst e1 e2;let K:=(we.mp h) x<|xw a;let Y:=(we.mp k) y<|xw m;let U:A.in1.units+n<cLine:=by change A.units+1+n<cLine;omega
     show(?_,λ_ b hb=>?_)
     ·rw[Ot n x y d e (oO _ _ K) (oO _ _ Y) M J];show F8 K Y U f L
     ·rw[Ou n x y d e (oO _ _ K) (oO _ _ Y) M J]at hb;show ih K Y U f L hb
   |_=>simp[ltP]at e
  |_=>exists h
section
abbrev JU:E_ 0->Prop
 |.tup _::_=>False
 |_=>True
def BC{b fin:Bool}{n:Nat}{Q:c9 Bool}(m:A.units+n<cLine):∀(P S:E_ 0)(U x:YX 0)(i:Nat)(c),(∀p∈P,p.ky n=true)->(∀q∈S,q.ky n=true)->βM P U->βM S x->ltL (ltP n) P S=a8 c->((b&&i == 0)=true->JU P)->fin=decide (P.l<S.l)->Q c s->KatLex prog w A b fin Q (U.zip x) i s
 |[],[],[],[],i,c,_,_,_,_,C,_,f,h=>by
  cases C
  rw[f];show h
 |[],q::S,[],u::x,i,c,_,_,_,_,C,_,f,h=>by
  cases C
  rw[f];show h
 |p::P,[],u::U,[],i,c,_,_,_,_,C,_,f,h=>by
  cases C
  rw[f];show h
 |p::P,q::S,u::U,v::x,i,c,l,j,y,R,C,N,f,h=>by
  let H:(if p=q then ltL (ltP n) P S else ltP n p q)=a8 c:=C;let k:=l p vo;let K:=j q vo;show kat_cons<|F8 k K m y.1 R.1 prog w _ _ ?_;by_cases o:p=q
  ·rw[if_pos o]at H;rw[decide_eq_true o];show kat_yes (BC m P S U x (i+1) c (λz Z=>l z<|vr _ Z) (λz Z=>j z<|vr _ Z) y.2 R.2 H (λz=>?_) ?_ h)
   ·cases b <;> simp at z
   ·rw[f];simp
  ·rw[if_neg o]at H;rw[decide_eq_false o];show kat_no ?_;cases B:(b&&i == 0) with
   |false=>exact kat_one _ _<|Qb n k K m y.1 R.1 H prog w _ _ h
   |true=>
    cases p with
    |tup _=>exact(N B).elim
    |int a=>
     cases q with
     |int d=>
      let(t,rfl):=y.1;let(T,rfl):=R.1;let e:decide (a<d)=c:=by cases n <;> exact wu H
      rw[<-e]at h;show oneLt_int h
     |_=>cases n <;> simp[ltP]at H
    |str a=>
     cases q with
     |str d=>
      let(t,rfl):=y.1;let(T,rfl):=R.1;let e:decide (a.cps.toList<d.cps.toList)=c:=by cases n <;> exact wu H
      rw[<-e]at h;show oneLt_str h
     |_=>cases n <;> simp[ltP]at H
    |_=>exact y.1.elim
 |[],_,_::_,_,_,_,_,_,r,_,_,_,_,_=>r.elim
 |_::_,_,[],_,_,_,_,_,r,_,_,_,_,_=>r.elim
 |_,[],_,_::_,_,_,_,_,_,r,_,_,_,_=>r.elim
 |_,_::_,_,[],_,_,_,_,_,r,_,_,_,_=>r.elim
def Dz{q:PV}{c:Bool}{Q:c9 Bool}(U:A.units+n<cLine)(k:p.ky (n+1)=true)(K:q.ky (n+1)=true)(tp:∃P,p=.tup P/\(b=true->JU P))(T:∃S,q=.tup S)(r:XX p v)(r':XX q u)(H:ltP (n+1) p q=a8 c)(h:Q c s):
  l_ (keyLt' (tuples' b) v u) Q E s:=by
 let(P,rfl,N):=tp;let(S,rfl):=T;let(a,t,rfl,(O,o,_,m,d),x):=r;let(l,i,rfl,(Y,y,_,M,D),R):=r';show kat_lt o d y D ?_;let e:decide (t.toArray.size<i.toArray.size)=decide (P.l<S.l):=by simp[x.length,R.length]
 rw[e];show BC U P S t i 0 c (we.mp k) (we.mp K) x R H (λz=>N (by cases b <;> simp at z;rfl)) rfl h
abbrev fk:PV->Nat
 |.tup (.int _::_)=>0
 |.tup (.str _::_)=>1
 |.tup (.tup _::_)=>2
 |_=>3
abbrev fkT(m:Nat):gV:=.type (if m=0 then "int" else if m=1 then "str" else "tuple")
def zZ{m:Nat}(M:m<3):∀{ps:E_ 0}{vs:YX 0},βM ps vs->(∀p∈ps,fk p=m)->∃F,F.l=vs.l/\KatTups s.heap vs F/\∀f∈F,Looks (L_ w) s.heap (typeOf f) (fkT m)
 |[],[],_,_=>I1c [] rfl KatTups.nil λ_ q=>nomatch q
 |p::ps,v::vs,r,S=>by
  let(F,(l),j,u):=zZ M r.2 λx e=>S x<|vr _ e;let h:=S p vo;cases p with
  |tup z=>
   let(a,I,(z0),z1,X):=r.1;subst z0;let(o,k,C,n,d):=z1;cases z with
   |nil=>simp[fk]at h;omega
   |cons x z=>
    cases I with
    |nil=>exact X.elim
    |cons f I=>
     show I1c (f::F) (by simp[l]) (KatTups.cons k C d (by simp) j) λg H=>?_;rcases v8.mp H with rfl|H
     ·let R:=X.1;cases x with
      |int i=>let⟨t,rfl⟩:=R;have:m=0:=h.symm;subst this;show Looks.now
      |str i=>let⟨t,rfl⟩:=R;have:m=1:=h.symm;subst this;show Looks.now
      |tup i=>let⟨y,T,rfl,⟨b,O,c,N,D⟩,_⟩:=R;have:=h.symm;subst this;have:Looks (L_ w) _ (typeOf<|.ref y) b.cls:=(Looks.ld O).andThen .now;rw[c]at this;show this
      |_=>exact R.elim
     ·show u g H
  |_=>simp[fk]at h;omega
 |[],_::_,r,_=>r.elim
 |_::_,[],r,_=>r.elim
def Gx{m:Nat}(H:m<3){ps:E_ 0}{Q:c9 SortKind}(r:βM ps vs)(S:∀p∈ps,fk p=m)(z:0<vs.l)(h:Q (tuples'<|decide (m≠2)) s):l_ (δH 0) Q E s:=by
 let(f,l,t,T):=zZ H r S;show kat_kind t ⋯ T ?_ ?_
 ·match m,H with
  |0,_=>rfl
  |1,_=>rfl
  |2,_=>rfl
 ·have:((fkT m) != Value.type "tuple")=decide (m≠2):=by
   match m,H with
   |0,_=>rfl
   |1,_=>rfl
   |2,_=>rfl
  rw[this];show h
end
structure OkN(m:Nat)(xs:k_ PV):Prop where
 m3:m<3
 ky:∀x∈xs,x.ky 20=true
 fk:∀x∈xs,fk x=m
 lt:∀x∈xs,∀y∈xs,(ltP 20 x y).isSome=true
abbrev okN(xs:E_ 0):Bool:=match xs with
 |[]=>true
 |x::_=>decide (fk x<3)&&xs.all (PV.ky 20)&&xs.all (λy=>fk y == fk x)&&xs.all λy=>xs.all λz=>(ltP 20 y z).isSome
def Qc(h:okN xs=true):∃m,ζw xs:=by
 cases xs with
 |nil=>exact⟨0,⋯,(λx H=>nomatch H),(λx H=>nomatch H),λx H=>nomatch H⟩
 |cons x xs=>have w:(εl 0&&(x::xs).all _&&(x::xs).all (λy=>fk y == fk x)&&(x::xs).all λy=>(x::xs).all λz=>(ltP 20 y z).isSome)=true:=h;rw[wy,wy,wy]at w;let(((v,u),t),s):=w;show(fk x,of_decide_eq_true v,we.mp u,λy Y=>by simpa using we.mp t y Y,λy Y z Z=>we.mp (we.mp s y Y) z Z)
def JV{m:Nat}(h:ζw xs):okN xs=true:=by
 cases xs with
 |nil=>rfl
 |cons x xs=>
  change(εl 0&&(x::xs).all _&&(x::xs).all (λy=>fk y == fk x)&&(x::xs).all λy=>(x::xs).all λz=>(ltP 20 y z).isSome)=true
  let X:=h.fk x vo;rw[wy,wy,wy];show(⟨⟨decide_eq_true (by rw[X];show h.m3),we.mpr h.ky⟩,we.mpr λy H=>by rw[h.fk y H,X];simp⟩,we.mpr λy H=>we.mpr λz Z=>h.lt y H z Z)
def OkN.inj{m:Nat}(h:ζw xs):∀a∈xs,∀b∈xs,enc a=enc b->a=b:=λa H b B e=>by let(c,C):=zd.mp<|h.lt a H b B;show N8 C e
def Cm{m:Nat}(M:m<3)(h:fk p=m):∃P,p=.tup P/\(decide (m≠2)=true->JU P):=by
 cases p with
 |tup s=>
  show I1b s rfl λH=>?_;cases s with
  |nil=>trivial
  |cons x s=>cases x <;> first|trivial|(exact((of_decide_eq_true H) h.symm).elim)
 |_=>simp[fk]at h;omega
def HRs.kept{h:jo}(k:∀b o,Zm 0=a8 o->YI 0=a8 o){ps:E_ 0}(r:βL vs):HRs h' ps vs:=HRs.keep (λa x z0=>E1b z0 λo H q=>(ZX (k a o H) q)) r
def HRs.getD{h:jo}{ps:E_ 0}(r:βL vs)(hi:i<ps.l):HR h (ps.getD i .non) (YK 0):=by
 let g:ps[i]?=a8 (ps.getD i .non):=by simp[hi]
 let(v,(V),H):=r.at g;let e:YK 0=v:=by simp[V]
 rw[e];show H
def RVs.pick'{vs:k_ V}(r:Yx 0):∀{p:Z5 0},(∀i∈p,i<xs.l)->p5 (p.map λi=>xs.getD i .non) (p.map λi=>δJ 0 .non)
 |[],_=>trivial
 |i::p,h=>by
  let g:xs[i]?=a8 (xs.getD i .non):=by simp[h i vo]
  let(v,(z),R):=r.at g;let e:δJ 0 .non=v:=by simp[z]
  show(?_,RVs.pick' r λj J=>h j<|vr _ J)
  change ia _ (δJ 0 .non)
  rw[e];show R
@[reducible]def KP:=γ7 0×PV
abbrev Ow(x:KP):k_ KP->k_ KP
 |[]=>[x]
 |y::ys=>if rN y.1 x.1=true then y::Ow x ys else x::y::ys
abbrev JW:k_ KP->k_ KP
 |[]=>[]
 |x::xs=>Ow x (JW xs)
def BD{α β:Type}:∀{l:k_ (α×β)},(l.map (·.1)).Nodup->∀{a b:α×β},a∈l->b∈l->a.1=b.1->a=b
 |[],_,_,_,h,_,_=>nomatch h
 |x::l,n,a,b,z,B,e=>by
  rw[wq,Vp]at n;rcases v8.mp z with rfl|A
  ·rcases v8.mp B with rfl|H
   ·rfl
   ·show(n.1<|v7.mpr ⟨b,H,e.symm⟩).elim
  ·rcases v8.mp B with rfl|H
   ·show(n.1<|v7.mpr ⟨a,A,e⟩).elim
   ·show BD n.2 A H e
open Classical in
abbrev sortBy(b:Bool)(ks ys:E_ 0):l7 (E_ 0):=match BB ks with
 |some kss=>if kss.l<64/\kss.l=ys.l/\zS kss=true/\kss.Nodup then a8 ((βd<|JW<|kss.zip ys).map (·.2)) else a9
 |none=>a9
abbrev Gy(f:Fn)(b:Bool)(ys:E_ 0):E_ 0->E_ 0->PH->Yv 0
 |[],ks,h=>match sortBy b ks ys with
  |some zs=>.ok (.ref h.l) (h++[.lst zs])
  |none=>.bad
 |x::xs,ks,h=>(f [x] h).bind λk h1=>Gy f b ys xs (ks++[k]) h1
abbrev fQ(x:PV)(h:PH):l7 (E_ 0):=match x with
 |.ref n=>match Ym n with
  |some ys=>a8 ys
  |none=>eX h n
 |.fl ys=>a8 ys
 |_=>a9
abbrev JX(x:PV)(h:PH):l7 (E_ 0):=match x with
 |.ref n=>match h[n]? with
  |some (.vw 0 d)=>match h[d]? with
   |some (.dK [])=>a8 []
   |_=>a9
  |_=>a9
 |_=>a9
abbrev JY(f:Fn)(b:Bool)(x:PV)(h:PH):Yv 0:=match(fQ x h).or (JX x h) with
 |some ys=>if ys.l<64 then Gy f b ys ys [] h else .bad
 |none=>.bad
abbrev Qd(f:Fn)(b:Bool)(me:Me):Me:=λδ h=>(me δ h).bind λx h1=>JY f b x h1
def RVs.pick{vs:k_ V}(r:Yx 0):∀{p:Z5 0},(∀i∈p,i<xs.l)->p5 (p.map λi=>xs.getD i .non) (p.map λi=>δJ 0 .non)
 |[],_=>trivial
 |i::p,h=>by
  let g:xs[i]?=a8 (xs.getD i .non):=by simp[h i vo]
  let(v,(z),R):=r.at g;let e:δJ 0 .non=v:=by simp[z]
  show(?_,RVs.pick r λj J=>h j<|vr _ J)
  change ia _ (δJ 0 .non)
  rw[e];show R
def JZ{σ:St}(I:u_ s)(h:(b7 s)<=a):X.s₀.heap.objs.size<=a/\a≠X.env.locals/\(∀x c,A2 0=a8 c->c≠a)/\(∀p∈X.pn++c6,p.1≠a)/\a∉X.fs:=by
 show(vz I.sz h,Io<|wb I.lt h,λx c e z=>?_,λp P z=>?_,I.nofs h)
 ·let(v,o,(O),_):=βH e;rw[z]at O;show absurd (wb (vy O) h)<|VO _
 ·let O:=(βm P).1;rw[z]at O;show absurd (wb (vy O) h)<|VO _
def oP{its:K_ 0}{e:Nat}:∀v,(seqObj "list" its e).data≠.cell v:=λv z=>nomatch z
def Inv.adopt{σ:St}{d:h_}{o:HO}(I:u_ s)(A:H a=a9)(y:H d=a9)(f:X.s₀.heap.objs.size<=a/\a≠X.env.locals/\(∀x c,A2 0=a8 c->c≠a)/\(∀p∈X.pn++c6,p.1≠a)/\a∉X.fs)(fd:X.s₀.heap.objs.size<=d/\d≠X.env.locals/\(∀x c,A2 0=a8 c->c≠d)/\(∀p∈X.pn++c6,p.1≠d)/\d∉X.fs)(k:∀x u,x≠a->x≠d->ζk 0=a8 u->h'.get? x=a8 u)(E:αe (Zt o) h' a o):c8 (Zt o) {s with heap:=h'}:=by
 let N:∀x u,H x=a8 u->x≠a:=λx u e z=>by rw[z,A]at e;exists e
 let D:∀x u,H x=a8 u->x≠d:=λx u e z=>by rw[z,y]at e;exists e
 show I.call' (ch:=[a,d]) rfl ⟨λb u q n _ h=>?_,λb u q n _ h=>⟨u.slots,?_⟩,λb u q n h=>?_,λb u q h=>⟨u,?_⟩,λb S q=>?_,λb u S q=>?_,λb P q=>⟨#[],?_⟩⟩ (λb u e=>?_) I.bare λb B=>?_
 ·show δw (λz=>h<|by simp[z]) (λz=>h<|by simp[z]) q
 ·show δw (λz=>h<|by simp[z]) (λz=>h<|by simp[z]) q
 ·rw[aG<|λz=>h<|by simp[z]];show n
 ·show δw (λz=>h<|by simp[z]) (λz=>h<|by simp[z]) q
 ·rw[aG<|N _ _ q];show q
 ·rw[aG<|N _ _ q];show q
 ·rw[aG<|N _ _ q,q];simp
 ·by_cases B:b=a
  ·subst B;rw[aL]at e;exists e;show E
  ·rw[aG B]at e;show(γR u e).stay (λc v C q=>k c v ?_ ?_ q) (λc q=>by rw[aG<|N _ _ q];show q) λc S q=>by rw[aG<|N _ _ q];show q
   ·rcases C with z|z
    ·rw[z];show B
    ·show N _ _ z
   ·rcases C with z|z
    ·rw[z];show D _ _ e
    ·show D _ _ z
 ·rcases v8.mp B with rfl|B
  ·show(.inr f.1,f.2.1,f.2.2.1,f.2.2.2.1)
  ·rw[vx.mp B];show(.inr fd.1,fd.2.1,fd.2.2.1,fd.2.2.2.1)
variable{A':i_}{pn:S2 0}
def K0{k:Nat}{q:h_}{f:Fn}{σ:St}{Q:VK}{v:V}{M:PV->PH->Yv 0}{R:b9 0}(c:A1 X)(D:Z8 x st q fd pn)(G:γ5 (βV 1 f))(Z:eD j A')(I:u_ s)(g:δh A' X.stack s H)(N:Yi u)(T:p7 h)(L:ia y v)(O:v_ ((f [y] h).bind M) Q)(Y:∀U m l o z p n,c8 o m->RelV l U->φ<+:z->XT o->YG z o n->RV C z o p l->ZG z o (M p n) Q->R U m):wpAny (c3 X) A' (call (.ref q) [u]) R E s:=by
 rw[<-c.K]at G D;let S:=((I3d φ h [y] T ⟨L,trivial⟩ rfl (post.bind O)):βV 1 f [v] H _ E0);show wpAny_call (XA (G.run A' _ s H ⟨[u],[]⟩ [u] [v] _ E0 Z g (by
  have:=D.bd s [u] I.kIn (by simpa using(show([u]:YX 0).length=pn.l from G.len _ _ _ E0 S))
  simpa using this) (.cons N .nil) S) λr m t=>?_)
 match r,t with
 |.error e,t=>exact t.elim
 |.ok (.ret U),t=>let⟨l,o,i,W,z,P,n,a,b,c,d,e⟩:=I.after t;show Y U m l o z P n i W a b c d e
 |.ok .next,t=>exact zb t
 |.ok .brk,t=>exact zb t
 |.ok .cont,t=>exact zb t
open PySem
@[simp]theorem R6{f:Fn}:Qd f b m δ h=(Zk h).bind λx h1=>JY f b x h1:=rfl
def rS(e:h[n]?=a8 (.lst xs)):fQ (.ref n) h=a8 xs:=by simp[fQ,aJ,e]
open H in
def vE(e:Zr n=εR 0):jU h n=a8 (kvs.map (·.2)):=by
 unfold aV at e;split at e
 ·rename_i q;cases e;simp[jU,q]
 ·rename_i q;cases e;simp[jU,q]
 ·cases e
open H in
def gR(e:Zr n=εR 0):∃o,h[n]?=a8 o/\cE (.ref n) h=true/\∀H,H[n]?=a8 o->aV H n=εR 0:=by
 unfold aV at e;split at e
 ·rename_i q;exists e;show βw q (by simp[cE,q]) λH e=>by simp[aV,e]
 ·rename_i q;exists e;show βw q (by simp[cE,q]) λH e=>by simp[aV,e]
 ·exists e
def DC{h':PH}(x:t_ h')(e:Zr n=εR 0):aV h' n=εR 0:=by let(o,(g),_,k):=gR e;show k h'<|x _ _ g
def DD{d:Nat}(e:h[n]?=a8 (.vw 1 d))(z:Zr d=εR 0):fQ (.ref n) h=a8 (kvs.map (·.2)):=by
 let E:Ym n=a9:=by simp[aJ,e]
 simp[fQ,E,eX,e];show vE z
def Gz{d:Nat}(e:Zr d=εR 0):zX (.ref d) [] h=.ok (.ref h.l) (h++[.vw 1 d]):=by simp[zX,vE e]
def K2{z:PV}(e:Zr n=εR 0)(k:(α2 0).ky 6=true)(H:kvs.l<16777216):B6 (.ref n) (.tup xs) z h=a8 (P_<|.dD<|dW kvs (.tup xs) z):=by let K:(α2 0).isKt=true:=k;unfold B6;simp only[xF,K,if_true,e];rw[if_pos<|by simp_all]
@[simp]theorem Qe:rQ (.tup xs)=false:=(rfl)
@[simp]theorem Qf:rQ .non=true:=(rfl)
def Ext.setN{hX:PH}{o:MO}(x:t_ hX)(H:h.l<=n):t_ (hX.set n o):=λm O e=>by have:=(Y7 0).1;rw[ym ⋯];show x m O e
def Qg{kvs:k_ (Key×PV)}(e:h[n]?=a8 (.dK kvs)):vIx (.ref n) (.str x) h=ofO (Zf<|.inr x) h:=by
 let E:Ym n=a9:=by simp[aJ,e]
 simp[vIx,E,B4,e,xF]
def vF{m:Nat}(e:h[n]?=a8 (.lst xs))(E:h[m]?=a8 (.lst ys))(c:xs.l+ys.l<=16777216):aU (.ref n) (.ref m) h=.ok (.ref h.l) (h++[.lst<|xs++ys]):=by
 change Jy (.ref n) (.ref m) h=_
 simp[Jy,cD,e,E,c]
variable{C:MC}{k:Nat}{X:Cx}{h:PH}
abbrev qX:PV->E_ 0->PH->Yv 0:=λx ps h=>match x,ps with
 |.ref n,[y,z]=>match B4 h n y with
  |some o=>.ok (o.getD z) h
  |none=>.bad
 |_,_=>.bad
open H in
def N9(c:A1 X):MtR X "dict.get" (rM C qX):=λi s J H x N v U Q I f j h=>by
 let(G,h,p,d,(r),m,R,P):=h;unfold qX at P;split at P
 ·let(a,rfl,A):=m;subst f;let(L,V,(z1),Y,Z):=R.two;subst z1;let(M,K,(z0),y,u):=vals2 j;subst z0;split at P
  ·rename_i o e;let(O,(g),S,l):=rP r A Y e;show Pn c.hu I g y u λW b t n=>I2c (O.getD V) H t n ?_;cases o with
   |some q=>let⟨T,rfl,w⟩:=l q rfl;show αI w
   |none=>
    cases O with
    |none=>exact αI Z
    |some z=>exists S
  ·show P.elim
 ·show P.elim
def Qh:γD "dict" cE "dict.get" qX:=λc=>⟨N9 c,zP c⟩
def DE{kvs:k_ (Key×PV)}{z:PV}(e:h[n]?=a8 (.dK kvs)):qX (.ref n) [.str x,z] h=.ok ((Zf<|.inr x).getD z) h:=by unfold qX B4;simp[xF,e]
open PySem.MeetsSeq PySem.SeqAt
abbrev cY(f:PV->PV->Bool):E_ 0->E_ 0->Bool
 |[],[]=>true
 |x::xs,y::ys=>f x y&&δW ys
 |_,_=>false
section
variable{k:Nat}{σ:St}
def lO{R:gV->gV->Prop}{f:PV->PV->Bool}(o:∀{p q x y u v},f p q=true->YW x->ia q y->P2 u->X_ v->R u v):∀{xs ys:E_ 0}{vs ws:k_ V}{us zs:YX 0},δW ys=true->Yx 0->p5 ys ws->β3 0->aO ws zs->us.l=zs.l/\∀j(w)(h2:j<zs.l),R us[j] zs[j]:=by
 intro xs ys vs ws us zs h r z a b
 induction a generalizing xs ys ws zs with
 |nil=>cases b with
  |nil=>exact⟨rfl,λj w=>absurd w (Nat.not_lt_zero _)⟩
  |cons q b=>cases xs with
   |cons=>exact r.elim
   |nil=>cases ys with
    |nil=>exact z.elim
    |cons=>exists h
 |cons p a i=>cases xs with
  |nil=>exact r.elim
  |cons x xs=>cases ys with
   |nil=>exists h
   |cons y ys=>cases b with
    |nil=>exact z.elim
    |cons q b=>
     let h:=Xr.mp (show _=true from h)
     let(l,g):=i h.2 r.2 z.2 b;show(congrArg Nat.succ l,fun|0,_,_=>o h.1 r.1 z.1 p q|j+1,w,h2=>g j _ _)
def DF{R:gV->gV->Prop}{f:PV->Bool}(o:∀{p x y u v},f p=true->YW x->YW y->P2 u->X_ v->R u v):∀{xs:E_ 0}{vs ws:k_ V}{us zs:YX 0},xs.all f=true->Yx 0->p5 xs ws->β3 0->aO ws zs->us.l=zs.l/\∀j(h1)(h2:j<zs.l),R us[j] zs[j]:=by
 intro xs vs ws us zs h r z a b;show lO (f:=λp q=>decide (p=q)&&f p) (λe=>?_) ?_ r z a b
 ·let e:=Xr.mp e;have:=of_decide_eq_true e.1;subst this;show o e.2
 ·clear r z a b
  induction xs with
  |nil=>rfl
  |cons x xs i=>rw[WY,wy]at h;rw[cY,i h.2,h.1,decide_eq_true rfl];rfl
def all_true:((xf n).all λ_=>true)=true:=by simp
def eQ{x y:V}(P:p.pl 0=true)(z:YW x)(Y:YW y)(r:P2 u)(R:X_ v):βK u v true:=by
 cases p with
 |non=>subst z;subst Y;subst r;subst R;show ζx 0
 |int i=>
  subst z;subst Y;let(t,rfl):=r;let(T,rfl):=R;have:=EqAt.int_int (A:=A) (s:=s) i t i T
  rwa[beq_self_eq_true]at this
 |str i=>
  subst z;subst Y;let(t,rfl):=r;let(T,rfl):=R;have:=EqAt.str_str (A:=A) (s:=s) i t i T
  rwa[beq_self_eq_true]at this
 |_=>exists P
def GA(o:X.K=C.K)(I:u_ s)(n):∀{A:i_}{p:PV}{x y:V}{u v:gV},A.units+n<cLine->p.pl n=true->YW x->YW y->P2 u->X_ v->βK u v true:=by
 induction n with
 |zero=>exact λ_ P w Y r z=>eQ P w Y r z
 |succ n d=>
  intro A p x y u v M P w Y r z;cases p with
  |tup N=>
   let(a,L,(z1),Q,t):=w;subst z1;let(b,J,(z0),W,q):=Y;subst z0;subst r;subst z;by_cases e:a=b
   ·rw[e];show ζx 0
   ·let(S,(U),c,_):=I.tuple<|o▸Q;let(T,(O),Z,_):=I.tuple<|o▸W;let(l,g):=DF (R:=λu v=>γ2 0) (λP w Y r z=>d (by change A.units+1+n<cLine;omega) P w Y r z) (P) t q U O;have:=RcAt.tuples (A:=A) c Z ⋯ (λj m f=>by simpa using g j (d0 m) (d0 f))
    show EqAt.of_refs e ?_;rw[all_true]at this;simpa[l] using this
  |non=>exact eQ rfl w Y r z
  |int i=>exact eQ rfl w Y r z
  |str i=>exact eQ rfl w Y r z
  |_=>exists P
end
abbrev lkL(f:PV->PV->Bool)(x:l7 (E_ 0))(y:l7 (E_ 0)):Bool:=match x with
 |some xs=>(match y with
  |some ys=>δW ys
  |none=>false)
 |none=>false
abbrev Ox(x y:PV):Bool:=match x with
 |.int i=>(match y with
  |.int j=>decide (i=j)
  |_=>false)
 |.str i=>(match y with
  |.str j=>decide (i=j)
  |_=>false)
 |.non=>(match y with
  |.non=>true
  |_=>false)
 |_=>false
abbrev SV(h:PH)(f:PV->PV->Bool)(x y:PV):Bool:=match x with
 |.tup xs=>(match y with
  |.tup ys=>δW ys
  |_=>false)
 |.ref a=>(match y with
  |.ref b=>lkL f (Ym a) (Ym b)
  |_=>false)
 |x=>Ox x y
abbrev cQ(h:PH)(n:Nat):PV->PV->Bool:=Nat.rec Ox (λ_ f=>SV h f) n
abbrev K3:PV->PV->Bool
 |.tup _,.tup _=>true
 |.ref _,.ref _=>true
 |_,_=>false
abbrev rT(x y:PV)(h:PH):Yv 0:=if K3 x y=true/\Zl 190 x y=true then .ok (.bl false) h else .bad
section
variable{k:Nat}{σ:St}
open H in
def N'(m:X.K=C.K)(I:u_ s)(M:p7 h)(n:Nat):∀{A:i_}{p q:PV}{x y:V}{u v:gV},A.units+n<cLine->Zl n p q=true->YW x->ia q y->P2 u->X_ v->βK u v true:=by
 induction n with
 |zero=>intro A p q x y u v c P z Y r R;cases p <;> cases q <;> first|exact absurd P wg|(have e:=of_decide_eq_true P;subst e;show eQ rfl z Y r R)|exact eQ rfl z Y r R
 |succ n G=>
  intro A p q x y u v c P z Y r R;let o:∀{p q x y u v},Zl n p q=true->YW x->ia q y->P2 u->X_ v->γ2 0:=λP z Y r R=>G (by change A.units+1+n<cLine;rw[Nat.add_assoc,Nat.add_comm 1];show c) P z Y r R;let U:=y3 (W4 _ _) c;cases p <;> cases q <;> first|exact absurd P wg|(have e:=of_decide_eq_true P;subst e;show eQ rfl z Y r R)|exact eQ rfl z Y r R|skip
  case tup.tup L J=>
   let(a,F,(z3),Q,w):=z;subst z3;let(b,D,(z2),S,t):=Y;subst z2;subst r;subst R;by_cases e:a=b
   ·rw[e];show ζx 0
   ·let(T,(O),Z,_):=I.tuple<|m▸Q;let(i,(N),W,_):=I.tuple<|m▸S;let(l,g):=lO o P w t O N;have:=RcAt.tuples Z W U (λj f d=>by simpa using g j (d0 f) (d0 d))
    show EqAt.of_refs e ?_;rw[all_true]at this;simpa[l] using this
  case ref.ref a b=>
   let P:lkL (Zl n) _ _=true:=P;cases E:Ym a with
   |none=>rw[E]at P;exists P
   |some L=>
    cases k:Ym b with
    |none=>rw[E,k]at P;exists P
    |some J=>
     rw[E,k]at P;let(a,F,(z1),Q,w):=gM M z<|show wI (.ref a) h=a8 L from E
     subst z1;let(b,D,(z0),S,t):=gM M Y<|show wI (.ref b) h=a8 J from k
     subst z0;subst r;subst R;by_cases e:a=b
     ·rw[e];show ζx 0
     ·let(T,(O),Z,_):=I.list<|m▸Q;let(i,N,W,_):=I.list<|m▸S;let(l,g):=lO o P w t O N;have:=RcAt.lists (A:=A) Z.isList W.isList (by simp[l]) U (λj f d=>by simpa using g j (d0 f) (d0 d))
      show EqAt.of_refs e ?_;rw[all_true]at this;show this
open H in
def Na(c:A1 X)(I:u_ s)(d:p7 h){q:PV}{x y:V}(hb:K3 p q=true)(P:Zl 190 p q=true)(O:YW x)(N:ia q y)(W:P2 u)(S:X_ v):RcAt X.A s u v true/\RcNeAt X.A s u v false:=by
 let J:X.A.units+190<cLine:=y3 (Nat.add_le_add (W4 _ _)<|by decide) c.room.un;let U:=y3 (W4 _ _) J;let o:∀{p q x y u v},Zl 189 p q=true->YW x->ia q y->P2 u->X_ v->εG u v true:=N' c.K I d 189 ⋯;cases p <;> cases q <;> first|exact absurd hb wg|skip
 case tup.tup M L=>
  let(a,G,(z3),Q,r):=O;subst z3;let(b,F,(z2),f,t):=N;subst z2;subst W;subst S;let(T,(Z),n,_):=I.tuple<|c.K▸Q;let(i,(Y),m,_):=I.tuple<|c.K▸f;let(l,g):=lO (R:=λu v=>EqAt _ s u v true) o P r t Z Y;let e:=RcAt.tuples n m U (λj z w=>by simpa using g j (d0 z) (d0 w))
  let E:=RcNeAt.tuples n m U (λj z w=>by simpa using g j (d0 z) (d0 w))
  rw[all_true]at e E;show(by simpa[l] using e,by simpa[l] using E)
 case ref.ref a b=>
  let P:lkL (Zl 189) _ _=true:=P;cases e:Ym a with
  |none=>rw[e]at P;exists P
  |some M=>
   cases E:Ym b with
   |none=>rw[e,E]at P;exists P
   |some L=>
    rw[e,E]at P;let(a,G,(z1),Q,r):=gM d O<|show wI _ h=a8 M from e
    subst z1;let(b,F,(z0),f,t):=gM d N<|show wI _ h=a8 L from E
    subst z0;subst W;subst S;let(T,(Z),n,_):=I.list<|c.K▸Q;let(i,Y,m,_):=I.list<|c.K▸f;let(l,g):=lO (R:=λu v=>EqAt _ s u v true) o P r t Z Y;let e:=RcAt.lists n.isList m.isList (by simp[l]) U (λj z w=>by simpa using g j (d0 z) (d0 w))
    let E:=RcNeAt.lists n.isList m.isList (by simp[l]) U (λj z w=>by simpa using g j (d0 z) (d0 w))
    rw[all_true]at e E;show(e,E)
def SX:M_ (za .NotEq) rT:=λc i s m H x y v u Q I n Y h=>by let(l,h,p,q,(r),R,t,o):=h;let(z,o):=o.ite;show(Na c I r z.1 z.2 R t n Y).2 _ X.w X.xe _ (I2c (.bl false) H I rfl<|o.val r rfl)
def tY{x:PV}(b:K3 x y=true)(e:Zl 190 x y=true):rT x y h=.ok (.bl false) h:=if_pos ⟨b,e⟩
end
abbrev jO(f:Str)(p:PV):k_ (Str×PV)->k_ (Str×PV)
 |[]=>[(f,p)]
 |(g,x)::r=>if g=f then(g,p)::r else(g,x)::jO f p r
abbrev gU(x:PV)(h:PH):l7 (Nat×Str×k_ (Str×PV)):=match x with
 |.ref n=>match h[n]? with
  |some (.ins c fs)=>a8 (n,c,fs)
  |_=>a9
 |_=>a9
abbrev aK(f:Str):PV->PH->Yv 0:=λx h=>match gU x h with
 |some (_,_,fs)=>match ZL 0 with
  |some p=>.ok p h
  |none=>.bad
 |none=>.bad
abbrev oQ(f:Str)(x y:PV)(h:PH):l7 PH:=match gU x h with
 |some (n,c,fs)=>if fs.l<1000 then a8 (P_<|.ins c<|jO f y fs) else a9
 |none=>a9
def K4{fs:k_ (Str×PV)}{ks:k_ (Str×V)}(r:XU fs ks)(f){v:V}(R:YW v):XU (jO f p fs) (βZ ks):=by
 induction r with
 |nil=>exact .cons ⟨rfl,R⟩ .nil
 | @cons a b s S h t i=>
  let(A,y):=a;let(B,x):=b;let e:A=B:=h.1;subst e;unfold jO lI;by_cases z:A=f
  ·rw[β6 0,β6 0];show .cons ⟨rfl,R⟩ t
  ·rw[γN 0,γN 0];show .cons h i
def mU{fs:k_ (Str×PV)}{ks:k_ (Str×V)}(r:XU fs ks)(f):(ZL 0=a9/\ks.lookup f=a9)\/∃p v,ZL 0=a8 p/\ks.lookup f=a8 v/\YW v:=by
 induction r with
 |nil=>exact .inl ⟨rfl,rfl⟩
 | @cons a b s S h t i=>
  let(A,y):=a;let(x,B):=b;let e:=h.1;subst e;simp only[yn];cases z:(f == A) with
  |true=>exact .inr<|I2c y B rfl rfl h.2
  |false=>exact i
open H in
def oR{x:PV}{v:V}{c:Str}{fs:k_ (Str×PV)}(r:p7 h)(R:ia x v)(e:gU x h=a8 (n,c,fs)):
  ∃a A d s,x=.ref n/\v=.ref a/\φ[n]?=a8 a/\h[n]?=a8 (.ins c fs)/\C.cl c=a8 A/\H a=a8 (.ins A d s)/\XU fs s:=by
 unfold gU at e;cases x with
 |ref m=>
  let(a,rfl,z):=R;dsimp only at e;split at e
  ·rename_i t f q;cases e
   let(A,d,s,(y),w,u):=r.at' _ a _ z q;show I4g a A d s rfl rfl z q y w u
  ·exists e
 |_=>exists e
abbrev Ip(C:MC)(f:Str):Prop:=∀c a,C.cl c=a8 a->Cls C.K a/\kI C.K a f
variable{h3:PH}{mv:Me}{value:j_}{dw:Pos}
section
variable{o:j_}{f:Str}
def SY{k:Nat}(F:Ip C f)(E:n_ e m)(hb:wP (Wh e f X.env (A5 0)=A5 0) zn):n_ (.Attribute e f pos) (mUn (aK f) m):=λc=>
 (P9 (E c) hb).imp λD H Q h=>by
  let(V,W,h,(Z),b,p):=h;show I3c V W h Z b<|(αh 0).imp ?_;show λv P dv=>E3e dv λT x w I G r R q=>?_;unfold aK at q;cases i:gU x w with
  |none=>rw[i]at q;show q.elim
  |some z=>
   let(n,N,O):=z;rw[i]at q;dsimp only at q;let(a,A,d,S,(z0),z1,M,J,s,t,Y):=oR r R i;subst z0;subst z1;let(L,g):=F N A s;rcases mU Y f with⟨l,_⟩|⟨y,u,l,j,U⟩
   ·rw[l]at q;show q.elim
   ·rw[l]at q;show I5f a A d S u rfl t (by rw[c.K];show L) (by rw[c.K];show g) j<|q.val r U
abbrev bG(f:Str)(mo mv:Me):Ms:=λδ h=>(mv δ h).fl λy h1=>(εF h1).fl λx h2=>match ζy h2 with
 |some h3=>.nx δ h3
 |none=>.bad
open H in
def GB{k:Nat}{x:PV}{v u:V}{D:Ends}{σ:St}(c:A1 X)(j:Ip C f)(r:p7 h)(E:F_ 0)(Z:ia x v)(Y:ia y u)(es:ζy h=a8 h3)(q:Y9 (.nx δ h3) D):
  ∃a A d s,v=.ref a/\H a=a8 (.ins A d s)/\Cls X.K A/\kI X.K A f/\s.l<1000/\β4 (Zt<|.ins A d<|lI f u s)/\∃n N F,gU x h=a8 (n,N,F)/\C.cl N=a8 A:=by
 unfold oQ at es;cases i:gU x h with
 |none=>rw[i]at es;exists es
 |some z=>
  let(n,N,F):=z;rw[i]at es;dsimp only at es;split at es
  ·rename_i L
   exists es
   let(a,A,d,s,(z0),z1,g,W,t,w,R):=oR r Z i;subst z0;subst z1;let(l,b):=j N A t;let p:XT (Zt<|.ins A d<|lI f u s):=Kp.upd (by rw[w];trivial);show I4f a A d s rfl w (by rw[c.K];show l) (by rw[c.K];show b) (by rw[<-yr R];show L) ?_;show(q φ σ _ vt p (r.write g (by rw[w];trivial)<|I3c A d _ t aL ?_)<|E.mono vt p,n,N,F,rfl,t);show(K4 R f Y).mono vt p
  ·exists es
def SZ{k:Nat}(F:Ip C f)(Q:n_ value mv)(O:n_ o mo)(S:wP (Xs value (a8<|.Attribute o f pos') pos.line X.env=αQ 0) zn):XZ (.Assign [.Attribute o f pos'] value pos) (bG f mo mv):=λc=>
 (P' (O c) (Q c) S).imp λD m H h=>by
  let(L,j,h,(M),r,p):=h;show I3c L j h M r<|(ζr 0).imp ?_;show λu I z9=>E3e z9 λt y W P T R V N=>?_;show I3c t j W R (δs T)<|(post.fl N).imp ?_;show λv E z8=>εj 0 λJ x U n l z w q=>?_;cases s:ζy U with
  |none=>rw[s]at q;show q.elim
  |some B=>rw[s]at q;let(a,A,d,K,(g),G,i,b,Z,Y,_):=GB c F z ((δs T).mono n l) w (V.mono n l) s q;show I4f a A d K g G i b Z Y
abbrev Qi(f:Str)(δ:Ev)(cn:Str)(x z y:PV)(h:PH):Fl:=match z,y with
 |.int i,.int j=>match gU x h with
  |some (_,c,_)=>if c=cn then(match oQ f x (.int (i+j)) h with
   |some h3=>.nx δ h3
   |none=>.bad) else .bad
  |none=>.bad
 |_,_=>.bad
abbrev GC(f:Str)(mo mv:Me):Ms:=λδ h=>(εF h).fl λx h1=>match gU x h1 with
 |some (_,cn,fs)=>match ZL 0 with
  |some z=>(mv δ h1).fl λy h2=>Qi f δ cn x z y h2
  |none=>.bad
 |none=>.bad
open H in
def K5{k:Nat}(F:Ip C f)(ho:n_ o mo)(hv:n_ value mv):XZ (.AugAssign (.Attribute o f dw) .Add value pos) (GC f mo mv):=λc=>
 (Ht (ho c) (hv c) Pa).imp λD σ H h=>by
  let(φ,m,h,(rh),Z,p):=h;show I3c φ m h rh Z<|(ζr 0).imp ?_;show λv H1 jr=>E3e jr λW x P M G r R Q=>?_;cases I:gU x P with
  |none=>rw[I]at Q;show Q.elim
  |some z=>
   let(n,cn,fs):=z;rw[I]at Q;dsimp only at Q;let(a,A,dx,ks,(z0),z1,ha,hh,N,hH,rk):=oR r R I;subst z0;subst z1;let(cl,na):=F cn A N;rcases mU rk f with⟨g,_⟩|⟨zz,u,g,l2,ru⟩
   ·rw[g]at Q;show Q.elim
   ·rw[g]at Q;show(a,A,dx,ks,u,rfl,hH,by rw[c.K];show cl,by rw[c.K];show na,l2,W,m,P,r,Z.mono M G,(post.fl Q).imp ?_);rintro w e ⟨U,y,O,J,B,Y,V,q⟩;unfold Qi at q;cases zz with
    |int i=>
     cases y with
     |int j=>
      dsimp only at q;subst ru;subst V;cases E:gU _ O with
      |none=>rw[E]at q;show q.elim
      |some z2=>
       rw[E]at q;dsimp only at q;split at q
       ·rename_i ec;subst ec;cases s:oQ f _ (.int _) O with
        |none=>rw[s]at q;show q.elim
        |some h3=>
         rw[s]at q;let(a2,b,d,S,e1,l,_,_,L,nx,n3,cn3,nj,T,t):=GB c F Y ((Z.mono M G).mono J B) (R.mono J B) (show RV C U e (.int _) (.int _) from rfl) s q
         exists e1
         rw[E]at T
         exists T
         rw[N]at t
         exists t
         show(i,j,rfl,rfl,d,S,l,L,nx)
       ·show q.elim
     |_=>exact q.elim
    |_=>cases y <;> exact q.elim
end
abbrev Cn(C:MC)(X:Cx)(k:Nat)(m:Str)(n:Nat)(tb:Str->l7 Fn):Prop:=∀c a f,C.cl c=a8 a->tb c=a8 f->
 ∃g fd ps j,Cls C.K a/\CV C.K a m g/\j<=k/\q_ g fd ps (βV (n+1) f)/\ZR []
def Qj{k:Nat}{m:Str}:αC (λ_=>a9):=λ_ _ _ _ h=>nomatch h
def Nb{k:Nat}{m c:Str}{g:h_}{f:Fn}{tb:Str->l7 Fn}(u:C.cl c=a8 a)(v:Cls C.K a)(M:CV C.K a m g)(J:j<=k)(G:q_ g fd ps (βV (n+1) f))(B:ZR [])(r:αC tb):
  αC (λz=>if z=c then a8 f else tb z):=λy A F H x=>by
 let h:(if y=c then a8 f else tb y)=a8 F:=x;by_cases e:y=c
 ·subst e;rw[u]at H
  exists H
  rw[if_pos rfl]at h
  exists h
  show I4e g fd ps j v M J G B
 ·rw[Z4 0]at h;show r y A F H h
abbrev aH(m:Str)(n:Nat)(tb:Str->l7 Fn)(mo:Me)(ms:Ma):Me:=λδ h=>(εF h).bind λx h1=>match gU x h1 with
 |some (_,c,fs)=>match tb c,fs.lookup m with
  |some f,a9=>(Yh h1).bind λps h2=>if ps.l=n then f (x::ps) h2 else .bad
  |_,_=>.bad
 |none=>.bad
section
variable{o:j_}{m:Str}{tb:Str->l7 Fn}{pl:Sem Bool}
def Qk{k:Nat}(hM:αC tb)(ho:n_ o mo)(ha:YN (e::es) ms)(S:wP (wj (e::es) X.env=(false,A5 0)::X2 0) zn)(l:wP ((H_ (X2 0)).any (·.1)=false) zn)(ht:wP (eval (.Call (.Attribute o m apos) (e::es) [] pos) X.env=(do
   let ov <-Yl 0
   standAt apos.atName
   let (f,first) <-holding [ov] (getMethod ov m pl)
   callWith pos f first (H_ (wj (e::es) X.env)) (backToKw pos (keywordEach [] X.env)))) zn):
  n_ (.Call (.Attribute o m apos) (e::es) [] pos) (aH m n tb mo ms):=λc P s x H Q I h=>by
 let(φ,z,h,(rh),E,p):=h
 show PySem.W.methodCall_KW (thn (ho c P s x H _ I<|I3c φ z h rh E<|post.bind p) λu s1 Z=>?_) ht
 let(v,H1,q,ru,u,x,b,p1,t1,R,v,Y):=Z
 cases i:gU x b with
 |none=>rw[i]at Y;exact Y.elim
 |some z=>
  let(n',N,fs):=z
  rw[i]at Y
  dsimp only at Y
  let(a,A,dx,ks,(z0),z1,r,Z,hc,hH,rk):=oR R v i
  subst z0
  subst z1
  cases t:tb N with
  |none=>rw[t]at Y;exact Y.elim
  |some f=>
   rw[t]at Y
   rcases mU rk m with⟨L,l2⟩|⟨y,u',L,_⟩
   ·rw[L]at Y
    let(g,fd,ps,j,(cl),me,hj,F,bd):=hM N A f hc t
    have M:CV X.K A m g:=by rw[c.K];exact me
    have F':z_ CX0 j g fd ps (βV (n+1) f):=by rw[c.K];exact F
    subst ru
    refine yH q hH (by rw[c.K];exact cl) M l2 <|W8 (first:=[.ref a]) I.ok.mod.kin M.kp (thn (ha c pos P s1 x H1 _ q<|I3c u z b R (E.mono p1 t1)<|postA.bind Y) λus s2 h2=>?_) S l
    let(vs,H2,d,r2,Q,zs,h3,p2,t2,y,s,V):=h2
    let(hl,V):=V.ite
    show(d.kIn,?_)
    exact BZ (vs:=.ref a::vs) F' (c.room.mono hj) (by rw[c.K];exact bd) .nil Bj d (.cons rfl r2) ⟨Q,h3,.ref n'::zs,y,⟨(I1b a rfl<|dG p2 r),(by show βU Q H2 zs<|vs++[];rw[Vh];exact s)⟩,by simp[hl],V⟩
   ·rw[L]at Y;exact Y.elim
def Nc{k:Nat}(S:Cn C X k m 0 tb)(O:n_ o mo)(G:wP (eval (.Call (.Attribute o m apos) [] [] pos) X.env=(do
   let ov <-Yl 0
   standAt apos.atName
   let (f,first) <-holding [ov] (getMethod ov m pl)
   callWith pos f first (H_ (wj [] X.env)) (backToKw pos (keywordEach [] X.env)))) zn):
  n_ (.Call (.Attribute o m apos) [] [] pos) (aH m 0 tb mo aC):=λc i s σ H Q I h=>by
 let(φ,δ,h,(rh),re,p):=h
 show PySem.W.methodCall_KW (thn (O c i s σ H _ I<|I3c φ δ h rh re<|post.bind p) λu s1 Z=>?_) G
 let(v,H1,t,ru,d,x,b,p1,t1,r,R,q):=Z
 cases E:gU x b with
 |none=>rw[E]at q;exact q.elim
 |some z=>
  let(n',N,fs):=z
  rw[E]at q
  dsimp only at q
  let(a,A,dx,ks,(z0),z1,l,Z,P,U,rk):=oR r R E
  subst z0
  subst z1
  cases T:tb N with
  |none=>rw[T]at q;exact q.elim
  |some f=>
   rw[T]at q
   rcases mU rk m with⟨L,n⟩|⟨y,u',L,_⟩
   ·rw[L]at q
    let(g,D,ps,j,(V),e,J,F,B):=S N A f P T
    have M:CV X.K A m g:=by rw[c.K];exact e
    have Y:z_ CX0 j g D ps (βV (0+1) f):=by rw[c.K];exact F
    subst ru
    show yH t U (by rw[c.K];exact V) M n ?_
    exact PySem.W.callWith_K0 t.kIn M.kp (BZ (us:=[.ref a]) (vs:=[.ref a]) Y (γ0 0) (by rw[c.K];exact B) .nil Bj t (.cons rfl .nil) ⟨d,b,[.ref n'],r,⟨(I1b a rfl l),trivial⟩,rfl,q⟩)
   ·rw[L]at q;exact q.elim
end
abbrev eG(cn:Str)(n:Nat)(f:Fn)(ms:Ma):Me:=λδ h=>(Yh h).bind λps h1=>if ps.l=n then(f (.ref h1.l::ps) (h1++[.ins cn []])).bind λv h2=>(match v with
 |.non=>.ok (.ref h1.l) h2
 |_=>.bad) else .bad
variable{ca:h_}{cn:Str}{fn:Fn}{zs:E_ 0}
def GD{vs:k_ V}{Q:VK}(c:C.cl cn=a8 ca)(m:p7 h)(b:p5 zs vs)(q:v_ (if zs.l=n then(fn (.ref h.l::zs)<|h++[.ins cn []]).bind λv t=>(match v with|.non=>Rs.ok (.ref h.l) t|_=>.bad) else .bad) Q):
  ∀y d,H y=a9->H d=a9->d≠y->βV (n+1) fn (.ref y::(vs++[])) (upd (x_ d<|.own y) y<|.ins ca d []) (λv u=>v=.non/\Q (.ref y) u) E0:=λy d i D N=>by
 let(l,q):=q.ite;let Y:(x_ d<|.own y) y=a9:=by rw[aG<|xy N];show i
 let K:XT (x_ d<|.own y):=Kp.new D;let s:Kp (x_ d _) (upd (x_ d _) y<|.ins ca d []):=Kp.new Y;let R:YG _ (upd (x_ d _) y _) (h++[.ins cn []]):=(m.aside D).new Y<|I3c ca d [] c aL .nil;let r:RV C (φ++[y]) (upd (x_ d<|.own y) y<|.ins ca d []) (.ref h.l) (.ref y):=⟨y,rfl,by rw[<-m.len];simp⟩;show I3d (φ++[y]) (h++[.ins cn []]) (.ref h.l::zs) R ⟨r,by rw[Vh];show b.mono (ζn _)<|K.trans s⟩ (by simp[l]) ?_;show(post.bind<|post.weak (ζn [y]) (K.trans s) q).imp ?_;show λv u z8=>εj 0 λa g t P T z w o=>?_;cases g with
 |non=>subst w;show(rfl,o.val z<|r.mono P T)
 |_=>exact o.elim
def Ql{k:Nat}{f:h_}{p:Pos}(z:C.cl cn=a8 ca)(M:Mk C.K ca f)(F:q_ f fd ps (βV (n+1) fn))(m:X.mg x=a_ ca)(b:ZR [])(a:YN (e::es) ms)(J:wP (j+1<=k) xL)(g:wP (Zu x) zn)(d:wP ((x == ("__debug__" : Str))=false) xL)(E:wP (wj (e::es) X.env=(false,A5 0)::X2 0) zn)(l:wP ((H_<|wj es X.env).any (·.1)=false) zn):
  n_ (.Call (.Name x p) (e::es) [] pos) (eG cn n fn ms):=λc=>by
 show(Md (by rw[c.K];show M) (by rw[c.K];show F) (γ0 0) g m (by rw[c.K];show b) .nil Bj (a c) d E l).imp λY H Q h=>?_;let(t,u,h,(y),R,o):=h;show I3c t u h y R<|(postA.bind o).imp ?_;show λV i z8=>εj 0 λs S Z P T r v q=>?_;show GD z r v q
def Nd{k:Nat}{f:h_}{p:Pos}(z:C.cl cn=a8 ca)(M:Mk C.K ca f)(F:q_ f fd ps (βV (0+1) fn))(m:X.mg x=a_ ca)(b:ZR [])(J:wP (j+1<=k) xL)(g:wP (Zu x) zn)(d:wP ((x == ("__debug__" : Str))=false) xL):n_ (.Call (.Name x p) [] [] pos) (eG cn 0 fn aC):=λc=>by show(J7 (by rw[c.K];show M) (by rw[c.K];show F) (γ0 0) g m (by rw[c.K];show b) .nil Bj d).imp λv H Q h=>?_;let(u,y,h,(r),R,o):=h;show GD (zs:=[]) z r trivial o
abbrev gW(x y v:PV)(h:PH):l7 PH:=match x,y with
 |.ref n,.int i=>match cD h n with
  |some xs=>match ixN xs.l i with
   |some j=>a8 (P_<|.lst<|xs.set j v)
   |none=>a9
  |none=>B6 x y v h
 |_,_=>B6 x y v h
abbrev iY(mv mo mi:Me):Ms:=λδ h=>(mv δ h).fl λv h1=>(εF h1).fl λx h2=>(mi δ h2).fl λy h3=>match gW x y v h3 with
 |some h4=>.nx δ h4
 |none=>.bad
open H in
def Ft{k:Nat}{h':PH}{pv:PV}{x y v:V}(c:A1 X)(p:p7 h)(m:ia px x)(Y:ia py y)(o:ia pv v)(e:gW px py pv h=a8 h'){σ:St}{Q:εt 0}(I:u_ s)(u:P2 xu)(R:X_ yu)(r:Yi vu)(q:∀S z,c8 z S->XT z->YG φ z h'->Q () S):wpAny (c3 X) X.A (setItem xu yu vu) Q X.xe s:=by
 unfold gW at e;split at e
 ·rename_i n i;split at e
  ·rename_i d L;split at e
   ·rename_i j E;cases e
    let(a,rfl,l):=m;subst Y;let(g,(t),W):=p.at' n a _ l<|gL L;show thn (set_list c6 s σ H _ _ v xu yu vu (λz=>z=Zt (.lst _)) I u R r<|I4e a g i j rfl rfl t (by rw[<-W.length];show E) rfl) ?_;rintro _ S ⟨z,f,rfl⟩;show q S _ f (Kp.lst t) (p.write l (by rw[t];trivial)<|I1b _ aL<|(RVs.set o j W).mono vt<|Kp.lst t)
   ·exists e
  ·show Bz c p m Y o e I u R r q
 ·show Bz c p m Y o e I u R r q
def Qm{k:Nat}{o i:j_}{mi:Me}(hv:n_ value mv)(A:n_ o mo)(hi:n_ i mi)(hs:wP (Xs value (a8<|.Subscript o i pos') pos.line X.env=αQ 0) zn):
  XZ (.Assign [.Subscript o i pos'] value pos) (iY mv mo mi):=λc n s z H D I z0=>E3c z0 λφ a h rh r p=>by
 show wpAny_Assign_Subscript (thn (hv c n s z H _ I<|I3c φ a h rh r<|post.fl p) ?_) hs;rintro vu s1 ⟨v,O,L,U,Z,pv,F,P,T,t,V,q1⟩;show thn (A c n s1 z O _ L<|I3c Z a F t (δs T)<|post.fl q1) ?_;rintro xu s2 ⟨x,N,J,f,W,px,E,w,d,m,j,q2⟩;show thn (hi c n s2 z N _ J<|I3c W a E m ((δs T).mono w d)<|post.fl q2) ?_;rintro yu s3 ⟨y,H3,G,Y,S,py,B,u,b,l,g,q⟩;cases e:gW px py pv B with
 |none=>rw[e]at q;show q.elim
 |some h4=>rw[e]at q;show Ft c l (j.mono u b) g ((V.mono w d).mono u b) e G f Y U λs' Q M K R=>I2b z Q M (q S z Q vt K R<|(((δs T).mono w d).mono u b).mono vt K)
def tZ{c:Str}{fs:k_ (Str×PV)}(e:h[n]?=a8 (.ins c fs)):gU (.ref n) h=a8 (n,c,fs):=by simp[gU,e]
def aP{c f:Str}{fs:k_ (Str×PV)}(e:h[n]?=a8 (.ins c fs))(l:ZL 0=a8 p):aK f (.ref n) h=.ok p h:=by simp[aK,tZ e,l]
def cR{c f:Str}{fs:k_ (Str×PV)}(e:h[n]?=a8 (.ins c fs))(l:fs.l<1000):oQ f (.ref n) p h=a8 (P_<|.ins c<|jO f p fs):=by simp[oQ,tZ e,l]
@[simp]theorem A8{E:FE}{f:Str}:(bG f mo mv δ h).W E=(mv δ h).W λy h1=>(εF h1).W λx h2=>∃h3,ζy h2=a8 h3/\Z9 h3:=by
 unfold bG;rw[Ff];congr 1;funext y h1;rw[Ff];congr 1;funext x h2;cases e:ζy h2 <;> simp
@[simp]theorem oS{f:Fn}:eG cn n f ms δ h=(Yh h).bind λps h1=>if ps.l=n then(f (.ref h1.l::ps)<|h1++[.ins cn []]).bind λv h2=>(match v with|.non=>.ok (.ref h1.l) h2|_=>.bad) else .bad:=rfl
@[simp]theorem UR{E:FE}{mi:Me}:(iY mv mo mi δ h).W E=(mv δ h).W λv h1=>(εF h1).W λx h2=>(mi δ h2).W λy h3=>∃h4,gW x y v h3=a8 h4/\Z9 h4:=by
 unfold iY;rw[Ff];congr 1;funext v h1;rw[Ff];congr 1;funext x h2;rw[Ff];congr 1;funext y h3;cases e:gW x y v h3 <;> simp
abbrev calm(f:Fn):Fn:=λxs h=>match f xs h with
 |.exc _ _=>.bad
 |r=>r
def boot_reversed:Wj "reversed" = a8 (.type "reversed"):=by rfl
def Co:typeLookup (.type "list") "keys" = pure a9:=by rw[typeLookup_type,builtinLookup_eq_fast];kernel_rfl
def Cp{xs:K_ 0}{k:Nat}{Q:l7 gV->g_->Prop}(X:C_ 0=a8 o)(C:o.cls=.type "list")(t:o.data=.seq xs k)(D:o.dict=a9)(r:A.handled=a9)(h:∀H K,(∀b u,tx 0=a8 u->H.get? b=a8 u)->Q a9 {s with heap:=H,toks:=K}):l_ (getAttr? (.ref a) "keys") Q E s:=by
 let(c,v,y,l):=o;simp only at C t D;subst C t D;let(p,g,d,K,O):=s;let z:∀T,(⟨p,g,d,T,O⟩:g_).TypeIs (.ref a) "list" := λ_=>A0 X rfl;let f:=sub_AttributeError;let q:=F.slot_list_getattribute.lookup;let n:=F.slot_list_getattribute.bind<|.ref a;let m:=am_list_getattr_none;unfold getAttr? getAttrBy? getAttrBy
 repeat (any_goals (first|assumption|exact z _|(specialize n7 (call (Value.builtin "list.__getattribute__") _ _) _ _ _;refine call_meets F.slot_list_getattribute (z _) am_entry_list_getattribute (F.args_list_getattribute_2 _ _) (meets_getattribute_miss_list a xs k l "keys" _ Co (by decide)<|by size_fits)<|I0c X r λH T e x=>?_)|wp_step))
 let(i,U,(j)):=x.there;unfold getattributeRaised
 repeat (any_goals (first|assumption|wp_step))
 show εB x.of.keeps
section
variable{v:h_}{es:ε8 0}
def Iq(h:s.TypeIs (.ref dc) "dict")(d:(dc == zx)=false)(h1:Zb 0=a8 oc)(h2:oc.data=.dict es ep)(q:Q (.ref<|b7 s) {s with heap:=s.heap.push {cls:=.type "dict_keyiterator",data:=.fields #[.ref dc,.int 0 0,.int es.size 0,.int ep 0]} }):l_ (pyIter<|.ref dc) Q E s:=by
 show WN h F.slot_dict_iter<|yc F.slot_dict_iter h F.entry_dict_iter ?_<|F.args_dict_iter_1 _;show eg <|eg<|Wx h ?_;show vh ?_
 change n7 (Xj dc >>= _) _ _ s
 unfold Xj;rw[if_neg (by rw[d];show wg)];show eg<|vh ?_;show eg<|Vz h1 h2 ?_;show eg<|VU h1 h2 ?_;show eg<|wt<|vh ⟨_,rfl,"dict_keyiterator",_,(A0 (YU rfl) rfl),VD.lookup,?_⟩;simpa[rawInt] using q
def K6{Q:l7 gV->g_->Prop}(h:γQ ep)(h1:Zb 0=a8 oc)(h2:oc.data=.dict es ep)(l)(q:∀H,H.IsKeyIter it dc (i+1) es.size ep->VJ it s.heap H->Q (a8 es[i].key) {s with heap:=H}):l_ (pyNext<|.ref it) Q E s:=by
 let(o,(G),z,g):=id h;show eg<|VI<|yb h.typeIs VD<|yc VD h.typeIs F.entry_dict_keyiterator_next ?_<|F.args_dict_keyiterator_next_1 _;show eg<|vh<|eg<|eg ?_
 first|refine eg (Wd h.typeIs<|vh ?_)|refine eg (εn<|vh ?_)
 show eg<|VP G g ?_;show eg<|vh<|eg<|Vz h1 h2 ?_;rw[if_neg<|show ¬ _ by simp];show eg<|vh<|eg<|VU h1 h2 ?_;rw[if_neg<|show ¬ _ by simp];show vh ?_;simp[if_false,xh l];show eg ?_
 first|refine eg (Wd h.typeIs<|vh ?_)|refine eg (εn<|vh ?_)
 show eg (wpAny_isOneOf_keyiter h.typeIs<|show n7 (setField (.ref it) 1 (rawInt<|(i:Int)+1) >>= _) _ _ s from eg (VE G g (by simp) ?_))
 let I:(Yp (VQ (·.setIfInBounds 1 (rawInt<|(i)+1)))).IsKeyIter it dc (i+1) es.size ep:=(βw (yx _ G<|VA<|zw g _) ((Obj.cls_mapFields ..).trans z) (by rw[zw g];simp[rawInt]));let t:({s with heap:=Yp (VQ (·.setIfInBounds 1 (rawInt<|(i)+1)))}:g_).TypeIs _ "dict_keyiterator" := I.typeIs;show eg<|yq<|eg<|wpAny_isOneOf_keyiter t ?_;show vh<|vh<|I1b _ rfl<|vh<|q _ I<|yd ..
def K7{Q:l7 gV->g_->Prop}(y:A.handled=a9)(h:γQ ep)(h1:Zb 0=a8 oc)(h2:oc.data=.dict es ep)(g:es.size<=i)(q:∀H,Zd H->Q a9 {s with heap:=H}):l_ (pyNext<|.ref it) Q E s:=by
 let(o,(G),x,z):=id h;show eg<|VI<|yb h.typeIs VD<|yc VD h.typeIs F.entry_dict_keyiterator_next ?_<|F.args_dict_keyiterator_next_1 _;show eg<|vh<|eg<|eg ?_;show eg<|Wd h.typeIs<|vh ?_;show eg<|VP G z ?_;show eg<|vh<|eg<|Vz h1 h2 ?_;rw[if_neg<|show ¬ _ by simp];show eg<|vh<|eg<|VU h1 h2 ?_;rw[if_neg<|show ¬ _ by simp];show vh ?_;simp[if_false,Int.toNat_natCast,yj g];show eg ?_;show eg<|Wd h.typeIs<|vh ?_;show(show n7 (setField (.ref it) 0 .none >>= _) _ _ s from eg (VE G z (by simp) ?_))
 show(show X6 _ from eg ?_);simp[newExc]
 show eg (wt (eg<|Wb (a:=yf) rfl<|wt ?_<|by size_fits)<|by size_fits);show eg<|wpAny_handled ?_;rw[show A.in1.handled=a9 from y]
 show eg<|vh<|wpAny_throw ?_;show eg<|Vs (A0 (YU rfl) rfl) isSubtype_stop ?_;show vh<|q _<|((yd ..).extBut.push _).push _
def Fu(u:A.handled=a9)(I dc)(n:dc≠I)(oc)(es)(ep)(h2:oc.data=.dict es ep):
  αz A I [I,dc] [I] es.size (λi v=>∃e,es[i]?=a8 e/\v=e.key) (λi h=>h.IsKeyIter I dc i es.size ep/\h.get? dc=a8 oc) where
 sub:=λb B=>by rw[vx.mp B];show vo
 frame:=λ_ _ _ t k=>⟨let ⟨o,e,r⟩:=t.1;(ZX (k I vo o e) r),k dc (εs vo) _ t.2⟩
 item:=λi s Q E q t H=>K6 t.1 t.2 h2 q λy T S=>H _ y _ ⟨es[i],by simp,rfl⟩ ⟨T,(S.2 dc n).trans t.2⟩ λb o B e=>(S.2 b λz=>B (by rw[z];show vo)).trans e
 done:=λs Q E t H=>K7 u t.1 t.2 h2 (vk _) λy x=>H y _ λb o B e=>x b o (λz=>B (by rw[z];show vo)) e
 self:=λ_ _ _ _ t H=>wpAny_pyIter_keyiter t.1 H
def DG(c:oc.cls=.type "dict")(d:(dc == zx)=false)(h2:oc.data=.dict es ep):PySem.W.KdlSrc prog w "dict" dc dc es.size (λi v=>∃e,es[i]?=a8 e/\v=e.key) (λh=>h.get? dc=a8 oc) where
 type:=λ_ m=>I1b oc m c
 there:=λ_ m=>⟨vy m,vy m⟩
 keep:=λ_ _ m k=>k dc (.inl rfl) _ m
 notList:=by decide
 notTuple:=by decide
 hint:=λ_ _ _ _ m q=>PySem.W.kdl_hint_dict (I1b oc m c) q
 iter:=λ_ _ H m=>⟨_,_,(λ_ _ q=>Iq (I1b oc m c) d m h2 q),Fu H _ dc (wc<|vy m) oc es ep h2,⟨(βw (YU rfl) rfl rfl),X4 m⟩⟩
end
def DH{k:Nat}{σ:St}{d:Nat}{b:h_}(c:A1 X)(I:u_ s)(R:p7 h)(hb:φ[d]?=a8 b)(e:Zr d=εR 0):
  (b == zx)=false/\kvs.l<=wa/\∃o E P,tx 0=a8 o/\o.cls=.type "dict" /\ o.data=.dict E P/\∃W,p5 (kvs.map (·.1)) W/\aO W (E.toList.map (·.key)):=by
 let((S,Y,r,x,z,m,D),_):=Z_ R hb e;let l:=(yr r).trans<|yr x;show(m,by rw[l];show z,?_);let(o,E,P,G,y,v,g,u,n):=D;show(o,E,P,G,y.1,v,S.map<|λq=>V.ref q.2.1,?_,?_)
 ·clear x l e
  induction r with
  |nil=>trivial
  |cons q t i=>exact⟨q.2.2.1,i⟩
 ·rw[g];clear r l z g u n
  induction x with
  |nil=>exact .nil
  | @cons p q j Q h t i=>exact .cons (show RelV (.ref p.2.1) _ by rw[h.2.1];rfl) i
abbrev bW:E_ 0->PH->Yv 0:=λxs h=>match xs with
 |[.ref n]=>match Zr n with
  |some kvs=>.ok (.ref h.l) (h++[.lst (kvs.map (·.1))])
  |none=>vB xs h
 |_=>vB xs h
def A9{es:ε8 0}(h:ItemsOf (λi v=>∃e,es[i]?=a8 e/\v=e.key) acc es.size):acc.toList=es.toList.map (·.key):=by
 apply Vy;intro i;rw[wm,VB,VB];by_cases I:i<acc.size
 ·let E:acc[i]?=a8 acc[i]:=by simp
  let(e,(H),z):=h.2 i _ E;rw[E,H,z];rfl
 ·let y:¬ i<es.size:=by rw[<-h.1];show I
  rw[yj ⋯,yj ⋯];rfl
def Fv{k:Nat}(c:A1 X):δA (.type "list") (λx H Q=>∃(z:k_ h_)(h:PH)(d:Nat)(b:h_)(v:k_ (PV×PV)),x=[.ref b]/\YG z H h/\z[d]?=a8 b/\Zr d=a8 v/\∀l w,H l=a9->βU z H (v.map (·.1)) w->Q (.ref l) (x_ l<|.lst w)):=by
 intro p s V H x f Q I r h;let(z,h,d,b,v,(z0),j,B,Y,q):=h;subst z0;let(u,rfl,U):=εw 0;subst U;let(M,Z,O,E,P,g,m,G,w,R,y):=DH c I j B Y;let N:E.size<=wa:=by
  let e:=R.l;let n:w.l=E.size:=by have:=y.l;simpa using this
  rw[vn]at e;rw[<-n,<-e];show Z
 show PySem.W.kdl_call (DG m M G) (Zh 0) g N λi T a t K S A=>?_;show I2c (.ref _) _ (I.laid (o:=.lst w) K (vk _) ⟨?_,a.toList,t,by rw[A9 A];show y,by rw[Array.toArray_toList];show S⟩) rfl<|q _ w I.fresh R;rw[<-R.length,vn];show Z
open H in
def Nf{k:Nat}:Zp (.type "list") bW:=λc=>cF.imp (cF.or (N6 c)<|Fv c) λV H Q h=>by
 let(z,h,P,r,R,p):=h;unfold bW at p;split at p
 ·rename_i n;split at p
  ·rename_i s e;let(v,rfl,(a,rfl,A)):=R.one;show .inr<|I5e z h n a s rfl r A e λl W L w=>p.lnew r w L
  ·show .inl (γE p)
 ·show .inl (γE p)
def DJ(e:Zr n=εR 0):bW [.ref n] h=.ok (.ref h.l) (h++[.lst (kvs.map (·.1))]):=by simp[bW,e]
def dJ(e:h[n]?=a8 (.lst xs)):bW [.ref n] h=.ok (.ref h.l) (h++[.lst xs]):=by
 let E:Zr n=a9:=by simp[aV,e]
 let z:eX h n=a9:=by simp[eX,e]
 unfold bW;simp[E];unfold vB;simp[z];simp[Dp,aJ,e]
section
variable{k:Nat}
abbrev Aa:E_ 0->l7 (S2 0)
 |[]=>a8 []
 |.str x::r=>(Aa r).map (x::·)
 |_::_=>a9
abbrev jnd(sep:Str):S2 0->Str
 |[p]=>p
 |l=>Builtin.Str.glued sep l
abbrev Ng(sep:Str)(l:S2 0):Nat:=l.toArray.foldl (·+·.length+sep.l) 0
abbrev Nh(x:PV)(_:PH):Bool:=match x with
 |.str _=>true
 |_=>false
abbrev Ab:PV->E_ 0->PH->Yv 0:=λx ps h=>match x,ps with
 |.str sep,[.ref n]=>match cD h n with
  |some ys=>match Aa ys with
   |some zs=>if Ng sep zs<=wa/\(jnd sep zs).length<=wa then .ok (.str<|jnd sep zs) h else .bad
   |none=>.bad
  |none=>.bad
 |_,_=>.bad
def BE{φ:k_ h_}{H:Hp}:∀{ys:E_ 0}{zs:S2 0}{vs:k_ V}{us:YX 0},Aa ys=a8 zs->p5 ys vs->β3 0->∃l,us=strValues l/\l.map (·.1)=zs
 |[],zs,[],us,e,_,R=>by cases R;exists e;show I1b [] rfl rfl
 |p::ys,zs,v::vs,us,e,r,R=>by
  cases R with
  | @cons _ u _ s h t=>
   cases p with
   |str x=>
    unfold Aa at e;cases E:Aa ys with
    |none=>rw[E]at e;exists e
    |some Z=>
     rw[E]at e
     exists e
     let(l,rfl,rfl):=BE E r.2 t;let z:=r.1;subst z;let(T,rfl):=h;show I1b ((x,T)::l) rfl rfl
   |_=>exists e
 |[],_,_::_,_,_,r,_=>r.elim
 |_::_,_,[],_,_,r,_=>r.elim
open H in
def Ni(c:A1 X):MtR X "str.join" (rM C Ab):=λP s V H x g v G Q I O W h=>by
 let(φ,h,p,J,j,Y,R,o):=h;unfold Ab at o;split at o
 ·rename_i e n;split at o
  ·rename_i N y;split at o
   ·rename_i M Z;split at o
    ·rename_i E;subst Y;let(T,rfl):=O;let(D,rfl,(a,rfl,A)):=R.one;let(u,rfl,U):=vals1 W;subst U;let K:h[n]?=a8 (.lst N):=by
      unfold cD at y;split at y
      ·rename_i q;exists y;show q
      ·exists y
     let(B,(f),S):=j.at' n a _ A K;let(_,b,m,i,_,d):=I.lstM f;let(l,rfl,w):=BE Z S i;let z:=o.val j rfl;let t:Builtin.Str.tooLong ((l.map (·.1)).toArray.foldl (·+·.length+e.l) 0)=false:=by
      rw[w]
      change decide (Ng e M>wa)=false
      show decide_eq_false ⋯
     show call_meets PySem.F.slot_str_join (βs e T) PySem.F.entry_str_join (PySem.F.args_str_join_2 _ _) (meets_str_join_list e T a l t) ⟨⟨_,d,rfl,m,rfl⟩,?_⟩;subst w;let L:=E.2
     match l,z,L with
     |[],z,L=>exact⟨L,.str _,H,YT 0,⟨_,rfl⟩,z⟩
     |[p],z,L=>exact I2c (.str _) H I ⟨_,rfl⟩ z
     |p::q::r,z,L=>exact⟨L,.str _,H,YT 0,⟨_,rfl⟩,z⟩
    ·show o.elim
   ·show o.elim
  ·show o.elim
 ·show o.elim
def Qn:γD "str" Nh "str.join" Ab:=λc=>⟨Ni c,λi s w H u h p x v I y R r e=>by
 cases p with
 |str z=>subst R;let(t,rfl):=r;show(βs z t,λa e=>nomatch e)
 |_=>exists e⟩
end
abbrev putD(x y:PV)(n:Nat)(h:PH):Yv 0:=if x.isKt=true then(match Zr n with
 |some kvs=>if kvs.l<wa then .ok (.ref n) (P_<|.dD<|dW kvs x y) else .bad
 |none=>.bad) else .bad
abbrev rV(mk mv:Me):Me:=λδ h=>(mk δ<|h++[.dK []]).bind λx h2=>(mv δ h2).bind λy h3=>putD x y h.l h3
variable{mk:Me}
open H in
def Nj{k:Nat}{ke:j_}{ve:j_}(hk:n_ ke mk)(hv:n_ ve mv):n_ (.Dict [a8 ke] [ve] pos) (rV mk mv):=λc y s σ H Q I z0=>E3c z0 λq δ h rh re p=>by
 show wpAny_Dict_any rfl rfl (λz=>nomatch z) (by change 1<=15;decide) ?_;let f:H (b7 s)=a9:=I.fresh;let I1:Yq y σ _ {s with heap:=s.heap.push {cls:=.type "dict",data:=.dict #[]} }:=I.laid (a:=(b7 s)) (o:=.dK []) (t':=s.toks) (λ_ _ q=>X4 q) (vk _)<|yP s.heap I.big;let jw:YG (q++[(b7 s)]) _ (h++[.dK []]):=rh.new f<|I1b [] aL .nil;let r:=re.mono (wz q [(b7 s)])<|Kp.new (o:=.dK []) f;let t:(q++[(b7 s)])[h.length]?=a8 (b7 s):=by rw[<-rh.len];simp
 let p1:ZG (q++[(b7 s)]) (x_ (b7 s)<|.dK []) (rV mk mv δ h) Q:=post.weak (ζn _) (Kp.new f) p;generalize (b7 s)=d at*;generalize q++[d]=φ0 at*;show evalPairs_cons<|thn (hk c y _ σ _ _ I1<|I3c φ0 δ _ jw r<|post.bind p1) ?_;rintro ku s1 ⟨x,H1,v,rku,φ1,px,h1,pf1,t1,i3,rx,q1⟩;show eg<|thn (hv c y s1 σ H1 _ v<|I3c φ1 δ h1 i3 (r.mono pf1 t1)<|post.bind q1) ?_;rintro vu s2 ⟨y,H2,u,jh,φ2,py,h2,pf2,t2,rh3,ry,x⟩;show eg<|wpAny_standAt<|vh<|evalPairs_nil ?_;unfold putD at x;split at x
 ·rename_i Q;split at x
  ·rename_i kvs ht;split at x
   ·rename_i hl;let p:φ2[h.length]?=a8 d:=dG pf2<|dG pf1 t;let b:=rx.mono pf2 t2;let(b,rfl):=tW Q b;subst rku;let((ks,xs,r,k7,hz,hm,dd),mu,nt):=wK u c.K c.w rh3 p ht;let rm:(γ1 0).room X.A:=by
     have:=c.hu64
     change X.A.units+6<cLine
     omega
    unfold storeAll;rw[List.forIn_cons];show eg<|eg<|wpAny_dictSet_heap (hsz:=hz) rm (Dv u c.K Q b) dd λh' D hs=>vh ?_;let(z,(r1),r2):=HD.put (a:=d) r k7 (xO Q) b ry jh;let(o,es,ep,(hq),g2,g3,g4,_,g5):=D;let gg:z.l<=wa:=by let e1:=yr r1;let e2:=zU kvs px py;omega
    show vh<|I2c (.ref d) (upd H2 d<|dDO C.w d z) (tH u mu hs ⟨o,hq⟩ ⟨⟨gg,hm,_,r2,o,es,ep,hq,g2,g3,?_,g5⟩,⟨o,hq⟩,?_⟩) rfl ?_
    ·rw[g4,<-c.w];rfl
    ·rintro g1 g2 ⟨z1,z2,ws,z3,o',E,e,z4,z5⟩ keep;show(z1,z2,ws,z3,o',E,e,keep _ z4,z5)
    ·show x φ2 (.ref d) _ vt (Kp.upd nt) (rh3.write p nt<|I1b z aL<|RKd.mono vt (Kp.upd nt) r1) (I1b d rfl p)
   ·show x.elim
  ·show x.elim
 ·show x.elim
section
variable{k:Nat}{its:K_ 0}{vs:k_ V}{ps:E_ 0}
abbrev Oy:PV->l7 V
 |.non=>a8 .non
 |.bl b=>a8 (.bl b)
 |.int i=>b0 i
 |.str z=>a8 (.str z)
 |_=>a9
abbrev Cq:E_ 0->l7 (k_ V)
 |[]=>a8 []
 |p::r=>match Oy p,Cq r with
  |some v,a8 vs=>a8 (v::vs)
  |_,_=>a9
def Nk{v:V}(e:Oy p=a8 v):YW v:=by cases p <;> first|(cases e;rfl)|cases e
open H in
def DK{φ:k_ h_}{H:Hp}:∀{ps:E_ 0}{vs:k_ V},Cq ps=a8 vs->p5 ps vs
 |[],vs,e=>by exists e;trivial
 |p::ps,vs,e=>by
  unfold Cq at e;split at e
  ·rename_i v w E z
   exists e
   show(Nk E,DK z)
  ·exists e
abbrev T1(K:vj)(a:h_)(ps:E_ 0):Prop:=∃(o:Obj)(its:K_ 0)(n:Nat)(vs:k_ V),δc 0=a8 o/\o.cls=.type "tuple" /\ o.data=.seq its n/\its.size<=wa/\aO vs its.toList/\o.dict=a9/\Cq ps=a8 vs
def Qo(m:X.mg x=a_ a)(g:T1 C.K a ps)(r:wP (Zu x) zn)(d:wP ((x == ("__debug__" : Str))=false) xL):n_ (.Name x pos) (mC<|.tup ps):=λc=>(xG (v:=.ref a) r m rfl d).imp λj H Q h=>by let(q,l,h,(R),e,p):=h;let(o,i,n,V,(G),z,y,w,u,t,s):=g;show p q _ H vt (γd 0) R ⟨a,V,rfl,.inr<|I3f o i n G z y w u t,DK s⟩
end
def jW{z:PV}(e:Zr n=εR 0)(k:(α2 0).ky 6=true)(l:kvs.l<16777216):gW (.ref n) (.tup xs) z h=a8 (P_<|.dD<|dW kvs (.tup xs) z):=by show K2 e k l
def Cr{kvs:k_ (Key×PV)}{z:PV}(e:h[n]?=a8 (.dK kvs))(l:kvs.l<16777216):gW (.ref n) (.str x) z h=a8 (P_<|.dK<|dW kvs (.inr x) z):=by
 change B6 (.ref n) _ z h=_
 show N5 e l
@[simp]theorem R7:rV mk mv δ h=(mk δ<|h++[.dK []]).bind λx h2=>(mv δ h2).bind λy h3=>putD x y h.l h3:=(rfl)
abbrev K8:HO->Prop
 |.tup _=>False
 |.own _=>False
 |.tbl _=>False
 |_=>True
section
variable{σ:St}
def Inv.swap{d:h_}{u u':HO}(I:u_ s)(h:H d=a8 u)(U:K8 u)(Z:∀o z,X.H₀ d≠a8 (.frz o z))(E:αe (x_ d u') s.heap d u'):c8 (x_ d u') s:=by
 let N:∀b,H b=a9->b≠d:=λb n z=>by rw[z,h]at n;exists n
 let T:∀b S,H b=a8 (.tup S)->b≠d:=λb S n z=>by rw[z,h]at n;exists n;show U
 let k:∀b y,H b=a8 (.tbl y)->b≠d:=λb S n z=>by rw[z,h]at n;exists n;show U
 show(I.ok,I.os,I.bare,⟨I.base.keep,I.base.slot,λb o e n l=>?_,I.base.there,λb S e=>?_,λb o S e=>?_,λb i e=>?_⟩,I.loc,I.cell,?_,λx c e=>?_,λp P=>?_,λb o e=>?_,I.len)
 ·have:=βl e n l;rw[aG<|N b this];show this
 ·have:=I.base.tups b S e;rw[aG<|T b S this];show this
 ·have:=I.base.frzs b o S e;let j:b≠d:=λz=>Z o S<|z▸e;rw[aG j];show this
 ·let(m,t):=I.base.tbls b i e;show(m,by rw[aG<|k b _ t];show t)
 ·rw[aG<|N _ I.free];show I.free
 ·have:=I.freeC x c e;rw[aG<|N _ this];show this
 ·let((e),n,r):=βm P;show(e,by rw[aG<|N _ n];show n,r)
 ·by_cases B:b=d
  ·subst B;rw[aL]at e;exists e;show E
  ·rw[aG B]at e;show(γR o e).stay (λc v _ q=>q) (λc q=>by rw[aG<|(λb S n z=>by rw[z,h]at n;exists n;show U) c b q];show q) λc S q=>by rw[aG<|T c S q];show q
def Inv.nofrz{d:h_}(I:u_ s)(h:∀o z,H d≠a8 (.frz o z)):∀o z,X.H₀ d≠a8 (.frz o z):=λo z e=>h o z<|I.base.frzs d o z e
def Inv.freeze{d:h_}{u:HO}(I:u_ s)(h:H d=a8 u)(U:K8 u)(f:∀o z,u≠.frz o z)(O:s.heap.get? d=a8 oc):c8 (x_ d<|.frz oc u) s:=by show I.swap h U (I.nofrz λo z e=>?_) ⟨O,(I.hok d u h).stay (λc v _ q=>q) (λc q=>by rw[aG<|(λb x n z=>by rw[z,h]at n;exists n;show U) c d q];show q) λc x q=>by rw[aG<|(λb x n z=>by rw[z,h]at n;exists n;show U) c x q];show q⟩;rw[h]at e;show f o z<|wu e
def Inv.thaw{d:h_}{u:HO}(I:u_ s)(h:H d=a8 (.frz oc u))(Z:∀o z,X.H₀ d≠a8 (.frz o z)):c8 (x_ d u) s:=by
 let t:∀b x,H b=a8 (.tup x)->b≠d:=λb x n z=>by rw[z,h]at n;cases n
 let N:∀b y,H b=a8 (.own y)->b≠d:=λb x n z=>by rw[z,h]at n;cases n
 let(_,q):=I.hok d _ h;show I.swap h trivial Z (q.stay (λc v _ q=>q) (λc q=>by rw[aG<|N c d q];show q) λc x q=>by rw[aG<|t c x q];show q)
end
abbrev ItI(dc:h_)(oc:Obj)(u:HO)(ks:k_ (V×V)):It:=⟨λi H=>H dc=a8 (.frz oc u)/\i<ks.length,λi H x H'=>∃t kv,H t=a9/\ks[i]?=a8 kv/\x=.ref t/\H'=x_ t (.tup [kv.1,kv.2]),λi H=>H dc=a8 (.frz oc u)/\ks.l<=i⟩
variable{elts:k_ j_}{x1:Nat}
def Fw(it d)(O)(u)(V)(m)(k:O.data=.dict V m)(ks)(hl:ks.l=V.size)(hk:∀(i:Nat)(D),∃y,ks[i]?=a8 y/\RelV y.1 V[i].key/\RelV y.2 V[i].val):βJ (.Tuple elts x1 pos) (ItI d O u ks) [it] it (λi h=>∃x l,IsItemIter h it d i V.size m x l) where
 mem:=by simp
 obj:=λi h ⟨x,l,t⟩ b B=>by
  let e:b=it:=by simpa using B
  subst e;show A0 t λv z=>by exists z
 keep:=λi h J ⟨x,l,t⟩ k=>I2a x l (k it (by simp) _ t)
 item:=by
  intro X hP hw hK C i S s σ H E I R ⟨x,l,t⟩ ⟨Q,D⟩;let j:i<V.size:=⋯;let(y,(g),r1,r2):=hk i j;let((f),F,f2,Z,Y,U):=(R it<|by simp);show next_item t ((I.hok d _ Q).1) k j λJ M gt kp=>A0 rfl ?_;show wpAny_letOwnedTupleGo_items M λh'' hI a=>?_;let L:=I.hok.fresh<|vk _;let A:=Io<|vy t;let p:=λb o B e=>(a.2 b B).trans<|kp b o B e;let T:∀b u,H b=a8 u->b≠it:=λb u e z=>by rw[z,f]at e;exists e
  let N:∀b u,H b=a8 u->b≠(b7 s):=λb u e z=>by rw[z,L]at e;exists e
  show(.ref _,x_ _ _,?_,rfl,(I2d _ y L g rfl rfl),(I2a _ _ hI),λb B=>?_)
  ·show Inv.step (s:=s) (ch:=[it]) I (λb B=>?_) (λb o _ _ C e _=>p b o (λz=>C<|by simp[z]) e) (λb o _ _ C e _=>⟨o.slots,p b o (λz=>C<|by simp[z]) e⟩) (λb o C e n=>?_)
    (λb o C e=>⟨o,p b o (λz=>C<|by simp[z]) e⟩) (λb xs e=>by rw[aG<|N _ _ e];show e) (λb o u e=>by rw[aG<|N _ _ e];show e) (λb ps e=>⟨#[],by rw[aG<|N _ _ e,e];simp⟩) (λm hm=>?_) (λb u e=>?_) I.bare
   ·let e:b=it:=by simpa using B
    subst e;show I0d Z F Y U
   ·rw[aG<|wc<|vy e];show n
   ·let(o,V,m,(ho),r):=hm;show I3b o V m (p _ o (xy F) ho) r
   ·by_cases B:b=(b7 s)
    ·subst B;rw[aL]at e
     exists e
     show(by change 2<=wa;rw[tV];decide,[V[i].key,V[i].val],.cons r1<|.cons r2 .nil,_,((a.2 _ A).trans gt),rfl,⟨_,rfl⟩,rfl)
    ·rw[aG B]at e;show(γR u e).stay (λc v C q=>p c v ?_ q) (λc q=>by rw[aG<|N _ _ q];show q) λc xs q=>by rw[aG<|N _ _ q];show q
     rcases C with z|z
     ·rw[z];show T b u e
     ·show T c _ z
  ·let e:b=it:=by simpa using B
   subst e;rw[aG<|xy A];show f
 done:=by intro X hP hw hK C i S s σ H E I R ⟨x,l,t⟩ ⟨Q,D⟩;let((f),F,f2,Z,Y,U):=(R it<|by simp);show HN (I.ok.hd C) t ((I.hok d _ Q).1) k ⋯ λJ G=>⟨rfl,I.turned (λb o B e=>G b o B e) f F Z Y U⟩
 self:=λ_ _ _ _ _ z0 h=>E2a z0 λ_ _ t=>ET t h
abbrev rW:MO->l7 (E_ 0)
 |.dK kvs=>a8 (kvs.map λkv=>.tup [kP kv.1,kv.2])
 |.dD kvs=>a8 (kvs.map λkv=>.tup [kv.1,kv.2])
 |_=>a9
abbrev B7:l7 MO->Bool
 |some (.dK _)=>true
 |some (.dD _)=>true
 |_=>false
section
variable{k:Nat}{σ:St}
def Qp{k:Key}(h:xY k v=true):RelV (kV k) v:=by
 rcases bR h with⟨i,t,rfl,rfl⟩|⟨x,t,rfl,rfl⟩
 ·show(t,rfl)
 ·show(t,rfl)
def BF{α β:Type}{F:α->β->Prop}{l:k_ α}{m:k_ β}(h:Paired F l m):∀{i:Nat}{a:α},l[i]?=a8 a->∃b,m[i]?=a8 b/\F a b:=by
 induction h with
 |nil=>intro i a e;simp at e
 |cons r t I=>
  intro i a e;cases i with
  |zero=>exists e;show A0 rfl r
  |succ i=>exact I e
def Ac{α β:Type}{F:α->β->Prop}{l:k_ α}{m:k_ β}(h:Paired F l m):∀{i:Nat}{b:β},m[i]?=a8 b->∃a,l[i]?=a8 a/\F a b:=by
 induction h with
 |nil=>intro i a e;simp at e
 |cons r t I=>
  intro i a e;cases i with
  |zero=>exists e;show A0 rfl r
  |succ i=>exact I e
def Nl(a:Key):ia (kP a) (kV a):=by cases a <;> rfl
structure US(C:MC)(φ:k_ h_)(H:Hp)(s:g_)(b:h_)(o:MO)(ks:k_ (V×V))(u:HO)(oc:Obj)(es:Array Xc)(ep:Nat):Prop where
 at':H b=some u
 nf:K8 u
 nz:∀o z,u≠.frz o z
 nt:yT (some u)
 get:s.heap.get? b=some oc
 cls:oc.cls=.type "dict"
 data:oc.data=.dict es ep
 nsys:(b == zx)=false
 fz:∀φ' H',φ<+:φ'->H' b=some (.frz oc u)->Kp H H'->RO C φ' H' b (.fz o)
 len:ks.l=es.size
 ent:∀(i:Nat)(hi:i<es.size),∃kv,ks[i]?=some kv/\RelV kv.1 es[i].key/\RelV kv.2 es[i].val
 items:∀xs,rW o=some xs->xs.l=ks.l/\∀(i:Nat) p,xs[i]?=some p->∃p1 p2 kv,p=.tup [p1,p2]/\ks[i]?=some kv/\RV C φ H p1 kv.1/\RV C φ H p2 kv.2
def Oz{d:Nat}{b:h_}{o:MO}(c:A1 X)(I:u_ s)(c:p7 h)(A:φ[d]?=a8 b)(z:h[d]?=a8 o)(hd:B7 (a8 o)=true):∃K u O E P,US C φ H s b o K u O E P:=by
 cases o with
 |dK Q=>
  let(K,x,R):=c.at' d b _ A z;let(z,M,D,L,(O,E,P,G,a,Z,Y,W,g6)):=γs x;let N:=yr L;let J:E.size=D.l:=by have:=zV W;have:=βS this;simpa using this
  show(K.map λq=>(kV q.1,q.2),_,O,E,P,x,trivial,(λ_ _ e=>by exists e),trivial,G,a.1,Z,M,λB H' p e t=>(I2b O K e<|R.mono p t),by rw[vn,N,J],λi U=>?_,λS T=>?_)
  ·let m:D[i]?=a8 (D[i]'⋯):=by simp
   let j:E.toList[i]?=a8 E[i]:=by simp[U]
   let(q1,q2):=W.get? j m;let(y,(v),r):=Ac L m;show I1c (kV y.1,y.2) (by rw[wm,v];rfl) ?_ ?_
   ·change RelV _ E[i].key
    rw[r.1];show Qp q1
   ·rw[q2];show r.2
  ·exists T
   let F:=yr R;show(by rw[vn,vn,F],λi p e=>?_);rw[wm]at e;let(y,g,rfl):=w8.mp e;let(q,(f),l):=BF R g;show I3d _ _ (kV q.1,q.2) rfl (by rw[wm,f];rfl) (by change ia _ _;rw[l.1];show Nl q.1) l.2
 |dD Q=>
  let(K,(x),R):=c.at' d b _ A z;let hO:αw b _:=γR _ x;let((hz,M,S,u,O,E,P,G,a,Z,Y,W),_):=hO;let N:=yr u;let J:E.size=S.l:=by have:=βS Y;simpa using this
  show(K.map λq=>(V.ref q.2.1,q.2.2),_,O,E,P,x,trivial,(λ_ _ e=>by exists e),trivial,G,a.1,Z,M,λB H' p e t=>(I2b O K e<|R.mono p t),by rw[vn,N,J],λi U=>?_,λS T=>?_)
  ·let m:S[i]?=a8 (S[i]'⋯):=by simp
   let j:E.toList[i]?=a8 E[i]:=by simp[U]
   rw[Y,wm,m]at j;let n:=wu j;let(y,(v),r):=Ac u m;show I1c (V.ref _,y.2.2) (by rw[wm,v];rfl) ?_ ?_
   ·change RelV (V.ref _) E[i].key
    rw[<-n,r.2.1];rfl
   ·change RelV _ E[i].val
    rw[<-n];show r.2.2
  ·exists T
   let F:=yr R;show(by rw[vn,vn,F],λi p e=>?_);rw[wm]at e;let(y,g,rfl):=w8.mp e;let(q,(f),l):=BF R g;show I3d _ _ (V.ref q.2.1,q.2.2) rfl (by rw[wm,f];rfl) l.2.2.1 l.2.2.2
 |_=>exists hd
def Ir{o:MO}(h:rW o=a8 xs):B7 (a8 o)=true:=by cases o <;> first|rfl|cases h
def RH.writeQ(r:p7 h){u:HO}{o:MO}(e:φ[n]?=a8 a)(t:Kq H (Zt u))(q:RO C φ (Zt u) a o):YG φ (Zt u) (P_ o):=by
 show(by rw[wo];show r.len,r.nd,λm b O y x=>?_);by_cases M:n=m
 ·subst M;rw[e]at y;exists y;let l:n<h.l:=by rw[<-r.len];show(Y7 0).1
  rw[yi l]at x
  exists x
  show q
 ·rw[ym M]at x;let B:b≠a:=λz=>by subst z;show M ((List.getElem?_inj (Y7 0).1 r.nd).mp<|e.trans y.symm)
  show(r.at' m b O y x).stayQ vt t (aG B)
abbrev wN(d:Nat)(h:PH):l7 PH:=match h[d]? with
 |some (.fz o)=>a8 (h.set d o)
 |_=>a9
open H in
def BG{d:Nat}(Y:p7 h)(D:B7 h[d]?=true)(p:φ<+:φ')(t:XT H')(R:N_ h2)(e:wN d h2=a8 h3):
  ∃a c u,H' a=a8 (.frz c u)/\(∀o z,H a≠a8 (.frz o z))/\XT (upd H' a u)/\YG φ' (upd H' a u) h3/\Kq H' (upd H' a u):=by
 unfold wN at e;split at e
 ·rename_i o i
  exists e
  cases E:h[d]? with
  |none=>rw[E]at D;exists D
  |some Z=>
   rw[E]at D;let(a,(j),l):=Y.get E;let f:∀o z,H a≠a8 (.frz o z):=λo z q=>by
    cases Z with
    |dK v=>let⟨S,Q,_⟩:=l;rw[q]at Q;cases Q
    |dD v=>let⟨S,Q,_⟩:=l;rw[q]at Q;cases Q
    |_=>exists D
   let A:=dG p j;let w:=R.at' d a _ A i;let g:∀c u,H' a=a8 (.frz c u)->(∀x,u≠.tup x)->(∀x,u≠.lst x)->XT _/\Kq H' _:=λc u q T N=>by
    let m:Kq H' (upd H' a u):=⟨λb x z=>by
     let n:b≠a:=by
      rintro rfl;rcases z with z|⟨O,z⟩
      ·rw[q]at z;cases z
      ·rw[q]at z;cases z;show T _ rfl
     unfold Rd;rw[aG n];show z,λb O x z=>by
     let n:b≠a:=by rintro rfl;rw[q]at z;cases z;show N _ rfl
     rw[aG n];show z⟩
    show(⟨λb x z=>m.1 b x<|t.1 b x z,λb O z Q=>?_⟩,m);let n:b≠a:=λW=>f O z<|W▸Q;rw[aG n];show t.2 b O z Q
   cases o with
   |dK v=>show E2b w λc S q r=>?_;let(y,K):=g c _ q (λ_ z=>by exists z) (λ_ z=>by exists z);show(a,c,_,q,f,y,R.writeQ A K<|I1b S aL<|r.monoQ vt K,K)
   |dD v=>show E2b w λc S q r=>?_;let(y,K):=g c _ q (λ_ z=>by exists z) (λ_ z=>by exists z);show(a,c,_,q,f,y,R.writeQ A K<|I1b S aL<|r.monoQ vt K,K)
   |_=>exact w.elim
 ·exists e
def RE.monoQ{σ:St}(t:Kq H H')(h:F_ 0):RE C φ H' δ σ:=⟨h.1,λi x e=>let ⟨v,q,r⟩:=h.2 i x e;(εC q<|r.monoQ vt t)⟩
abbrev T3(H:Hp)(P:Hp->Prop)(H2:Hp):Prop:=∃a oc u,H2 a=a8 (.frz oc u)/\(∀o z,H a≠a8 (.frz o z))/\P (upd H2 a u)
abbrev cM:PV->E_ 0->PH->Yv 0:=λx ps h=>match x,ps with
 |.ref n,[]=>if B7 h[n]?=true then .ok (.ref h.l) (h++[.vw 0 n]) else .bad
 |_,_=>.bad
open H in
def K9:γD "dict" cE "dict.items" cM:=λc=>⟨λi s g H x S v U Q I t w h=>by
 let(Z,h,p,j,r,y,R,P):=h;unfold cM at P;split at P
 ·rename_i n;split at P
  ·rename_i d;let(a,rfl,A):=y;have:S=[]:=by cases S <;> first|rfl|exact R.elim
   subst this;subst t;cases w
   cases O:h[n]? with
   |none=>rw[O]at d;exists d
   |some o=>
    rw[O]at d;let(K,u,z,q,E,(W)):=Oz c I r A O d;let T:s.TypeIs (.ref a) "dict" := I1b z W.get W.cls;show call_meetsIn PySem.F.slot_dict_items T PySem.F.entry_dict_items (PySem.F.args_dict_items_1 _) (Dh a W.nsys) ⟨T,?_⟩;let f:=I.fresh;show I2c (.ref _) _ (I.laid (o:=Gh 0 (b7 s) a) (λb u e=>X4 e) (vk _) ?_) rfl ?_
    ·show((βw (YU rfl) rfl rfl),⟨_,YU rfl⟩,λm l z0 k=>E1b z0 λo e p=>(ZX (k o e) p))
    ·show P _ _ _ (ζn _) (Kp.new f) (r.new f<|I1b a (dG (ζn _) A) aL) ⟨_,rfl,by rw[<-r.len];simp⟩
  ·show P.elim
 ·show P.elim,zP c⟩
end
def mW{o:MO}(e:h[n]?=a8 o)(d:B7 (a8 o)=true):cM (.ref n) [] h=.ok (.ref h.l) (h++[.vw 0 n]):=by simp[cM,e,d]
def K'{d:Nat}{o:MO}{l:k_ MO}(e:h1[d]?=a8 o):wN d (h1.set d (.fz o)++l)=a8 (h1++l):=by
 let H:=(Y7 0).1;let E:(h1.set d (.fz o)++l)[d]?=a8 (.fz o):=by rw[ya (by rw[wo];show H),yi H]
 unfold wN;rw[E];dsimp only;congr 1;rw[List.set_append_left _ _ (by rw[wo];show H),List.set_set];congr 1;apply Vy;intro i;by_cases I:d=i
 ·subst I;rw[yi H,e]
 ·rw[ym I]
abbrev VwJ(x:PV)(h:PH)(t:Nat×MO×E_ 0):Prop:=∃n,x=.ref n/\h[n]?=a8 (.vw 0 t.1)/\h[t.1]?=a8 t.2.1/\rW t.2.1=a8 t.2.2
open Classical in
abbrev vwJ(x:PV)(h:PH):l7 (Nat×MO×E_ 0):=if e:∃t,VwJ x h t then a8 e.choose else a9
abbrev Ka(x:PV)(h1:PH):Rs Wk:=match vwJ x h1 with
 |some (d,o,xs)=>.ok ⟨xs,λ_=>true⟩ (h1.set d<|.fz o)
 |none=>.bad
abbrev oT(m:Me):Mi:=λδ h=>(Zk h).bind Ka
open H in
def Np{x:PV}{t:Nat×MO×E_ 0}(e:vwJ x h=a8 t):VwJ x h t:=by
 unfold vwJ at e;split at e
 ·rename_i z;cases e
  show z.choose_spec
 ·cases e
def VwJ.uniq{x:PV}{t u:Nat×MO×E_ 0}(e:VwJ x h t)(f:VwJ x h u):u=t:=by let(n,E,w,v,s):=e;let(m,r,F,z,y):=f;let a:=PV.ref.inj<|r.symm.trans E;rw[a]at F;let b:=(MO.vw.inj<|wu<|F.symm.trans w).2;rw[b]at z;let d:=wu<|z.symm.trans v;rw[d]at y;show Prod.ext b<|Prod.ext d<|wu<|y.symm.trans s
def Qq{x:PV}{t:Nat×MO×E_ 0}(e:VwJ x h t):vwJ x h=a8 t:=(dif_pos<|⟨t,e⟩).trans<|congrArg a8<|e.uniq<|Exists.choose_spec _
section
variable{k:Nat}{σ:St}
def post.bindI{r:Yv 0}{f:PV->PH->Rs Wk}{R:It->Hp->Prop}(h:αo (γP 0) R):v_ r λv s=>∃y p u,φ<+:y/\XT s/\YG y s u/\RV C y s p v/\fJ C y s (f p u) R:=by
 cases r with
 |ok x u=>
  show λl v j P T n V=>⟨l,x,u,P,T,n,V,?_⟩;let h:αo (f x u) R:=h;cases e:f x u with
  |ok w k=>rw[e]at h;show λt q J o m=>h t q J (P.trans o) (T.trans m)
  |exc z k=>rw[e]at h;show λt q o m=>h t q (P.trans o) (T.trans m)
  |bad=>rw[e]at h;show h
 |exc x u=>exact h
 |bad=>exact h
def Nq(S:∃l R pos,tg=.Tuple l R pos)(h:n_ iter m):YO (oT m):=λc=>by
 rintro P s σ H R I ⟨φ,δ,hh,rh,re,p⟩;show thn (h c P s σ H _ I ⟨φ,δ,hh,rh,re,post.bindI p⟩) λv v w=>?_;let(x,f,Z,r1,z,x',h1,p1,t1,r,J,q):=w;unfold Ka at q;cases e:vwJ x' h1 with
 |none=>rw[e]at q;show q.elim
 |some t=>
  rw[e]at q;let(d,o,xs):=t;let(n,rfl,hv,ho,D):=Np e;let(a,rfl,ha):=J;cases r1
  let(j,B,hH):=Z1 ha hv;let(A,u,d,es,ep,W):=Oz c Z r B ho<|Ir D;let(l,R,pos,rfl):=S;let(P,ex):=W.items xs D;let Y:=Z.freeze W.at' W.nf W.nz W.get;let N:yT (f j):=by rw[W.at'];show W.nt
  show ES (Z.hok a _ hH).1 W.get W.data ⟨v.heap.objs.size,[v.heap.objs.size],_,ItI j d u A,upd f j _,rfl,Y.kept λb o e=>X4 e,Fw _ j d u es ep W.data A W.len W.ent,⟨.none,.none,YU rfl⟩,λb S=>?_,?_⟩
  ·rw[vx.mp S];show Y.fpOk (vk _)<|Y.hok.fresh<|vk _
  show q z _ _ vt (Kp.upd N) (r.write B N<|W.fz z _ vt aL<|Kp.upd N) λφ2 H2 h2 s G O _ i=>⟨λg=>⟨⟨G.2 _ _ _ aL,P▸g⟩,λx H' y=>?_⟩,λg=>⟨G.2 _ _ _ aL,P▸g⟩⟩;let(t,K,Q,V,rfl,rfl):=y;let F:=zf g;let(p1,p2',kv',U,E,M,L):=ex i _ F;rw[V]at E;cases E
  let T:Kp f (upd H2 t<|.tup [K.1,K.2]):=(Kp.upd N).trans<|G.trans<|Kp.new Q;show(⟨_,F,?_⟩,Kp.new Q,O.aside Q);rw[U];show(t,[K.1,K.2],rfl,.inl<|.inl aL,M.mono s T,L.mono s T,trivial)
abbrev wkE(m:Me)(δ:Ev)(h:PH):l7 Nat:=match Zk h with
 |.ok x h1=>(vwJ x h1).map (·.1)
 |_=>a9
abbrev iZ(m me:Me):Me:=λδ h=>match wkE m δ h with
 |some d=>if B7 h[d]?=true then(me δ h).bind λp h2=>match wN d h2 with
  |some h3=>.ok p h3
  |none=>.bad
  else .bad
 |none=>.bad
def Nr(m)(S:n_ e me):n_ e (iZ m me):=λc=>by
 intro i s F H Q I q;let(U,j,h,W,J,p):=q;unfold iZ at p;cases b:wkE m j h with
 |none=>rw[b]at p;show p.elim
 |some d=>
  rw[b]at p;by_cases D:B7 h[d]?=true
  case neg=>dsimp only at p;rw[if_neg D]at p;show p.elim
  dsimp only at p;rw[if_pos D]at p;show thn (S c i s F H (λv y=>∃a O u,y a=a8 (.frz O u)/\(∀o z,H a≠a8 (.frz o z))/\Q v (upd y a u)) I ⟨U,j,h,W,J,?_⟩) λv A w=>?_
  ·cases E:me j h with
   |bad=>rw[E]at p;show p.elim
   |exc x n=>rw[E]at p;show p
   |ok L n=>
    rw[E]at p;let P:ZG U H (match wN d n with|some Z=>.ok L Z|none=>.bad) Q:=p
    intro g v B Y G R V;cases t:wN d n with
    |none=>rw[t]at P;show P.elim
    |some Z=>rw[t]at P;let(a,O,u,q,f,K,l,M):=BG W D Y G R t;show(a,O,u,q,f,P g v _ Y K l<|V.monoQ vt M)
  ·let(x,y,T,r,a,O,u,q,f,N):=w;show(x,_,T.thaw q<|I.nofrz f,r,N)
def Nt(m)(W:XZ st (aT i me)):XZ st (aT i<|iZ m me):=λc=>by
 intro n s l H D I q;let(M,o,h,Z,T,p):=q;unfold aT iZ at p;cases E:wkE m o h with
 |none=>rw[E]at p;show p.elim
 |some d=>
  rw[E]at p;by_cases y:B7 h[d]?=true
  case neg=>dsimp only at p;rw[if_neg y]at p;show p.elim
  dsimp only at p;rw[if_pos y]at p;show thn (W c n s l H { nx:=λl=>T3 H<|D.nx l,rt:=λ_ _=>False,bk:=λ_ _=>False,ct:=λ_ _=>False} I ⟨M,o,h,Z,T,?_⟩) λf A F=>?_
  ·unfold aT;cases e:me o h with
   |bad=>rw[e]at p;show p.elim
   |exc x b=>rw[e]at p;show p
   |ok B b=>
    rw[e,Rs.bind_ok]at p;intro g v L P S r V;cases t:wN d b with
    |none=>rw[t]at p;show p.elim
    |some G=>rw[t]at p;let(a,O,u,q,N,K,R,U):=BG Z y P S r t;show(a,O,u,q,N,p g v _ P K R<|RE.monoQ U V)
  ·cases f with
   |next=>let⟨j,J,Y,a,O,u,q,N,Q⟩:=F;show(j,_,Y.thaw q<|I.nofrz N,Q)
   |brk=>let⟨_,_,_,z⟩:=F;show z.elim
   |cont=>let⟨_,_,_,z⟩:=F;show z.elim
   |ret w=>let⟨_,_,_,_,_,z⟩:=F;show z.elim
end
def Ad{α:Type}{d:Nat}{o:MO}{tg:Mg}{ys:k_ α}{emb:α->PV}(f:α->l7 PV)(e:Zk h=.ok (.ref n) h1)(V:h1[n]?=a8 (.vw 0 d))(x:rW o=a8 (γk 0))(H:B7 h[d]?=true)(O:h1[d]?=a8 o)(Z:ys.l<=16777216)(s:∀y∈ys,∃z,tg (emb y) (γe 0)=a8 z/\∀h,match f y with
   |none=>tst z h=.ok false h
   |some p=>tst z h=.ok true h/\elt z h=.ok p h):iZ m (bK js (oT m) tg tst elt) δ h=.ok (.ref h1.l) (h1++[.lst (εm 0)]):=by
 let v:vwJ _ h1=a8 (d,o,γk 0):=Qq ⟨n,rfl,V,O,x⟩;let w:oT m δ h=.ok ⟨γk 0,λ_=>true⟩ (h1.set d<|.fz o):=by simp[oT,e,Ka,v]
 let c:=lN f w (λ_ _=>rfl) Z λy Y=>let ⟨z,a,b⟩:=s y Y;⟨z,a,λh _=>b h⟩;let k:wkE m δ h=a8 d:=by simp[wkE,e,v,H]
 unfold iZ;rw[k];dsimp only;rw[βf 0,c,Rs.bind_ok,K' O,wo]
open PySem.SeqAt PySem.W
abbrev hdk:PV->l7 Nat
 |.tup (.int _::_)=>a8 0
 |.tup (.str _::_)=>a8 1
 |.tup (.tup _::_)=>a8 2
 |_=>a9
def Inv.drn{σ:St}(I:u_ s)(d):u_ { s with drawn:=d}:=⟨I.ok,I.os,I.bare,I.base,I.loc,I.cell,I.free,I.freeC,I.pin,I.hok,I.len⟩
abbrev Nu(w:j2)(a:h_)(ks:YV 0):HO:=.ext λh=>nV w h a ks
abbrev ddI(ns:YV 0):YV 0:=ns.foldl step_dedup []
abbrev sortI(ns:YV 0):YV 0:=ns.mergeSort<|λa b=>decide (a<=b)
def DL(ns):firstMet (λi=>γx 0) ns.l=ddI ns:=by
 unfold firstMet ddI;congr 1;apply Xw
 ·simp
 ·intro i h H;simp at h;simp[h]
def Kb:∀(s a:YV 0),(s.foldl step_dedup a).length<=a.l+s.l
 |[],a=>by simp
 |n::s,a=>by show vz (Kb s _) ?_;unfold step_dedup;split <;> simp <;> omega
def Nv(ns):(ddI ns).length<=ns.l:=by have:=Kb ns [];simpa[ddI] using this
def sortI_perm(ns:YV 0):(sortI ns).Perm ns:=List.mergeSort_perm ..
def Kc(ns):(sortI ns).Pairwise (·<=·):=by have:=List.pairwise_mergeSort (le:=λa b:Int=>decide (a<=b)) (λa b c h1 h2=>by simp at *;omega) (λa b=>by simp;omega) ns;show this.imp (λh=>by simpa using h)
def DM:∀{l m:YV 0},l.Perm m->l.Pairwise (·<=·)->m.Pairwise (·<=·)->l=m
 |[],m,p,_,_=>by simpa using p.symm.eq_nil
 |x::l,m,p,h,H=>by
  cases m with
  |nil=>simpa using p.eq_nil
  |cons y m=>
   let X:x=y:=by
    rcases v8.mp (p.mem_iff.mp<|vo) with e|e
    ·show e
    ·rcases v8.mp (p.mem_iff.mpr<|vo) with E|E
     ·show E.symm
     ·have:=((Vn.mp H).1) _ e;have:=((Vn.mp h).1) _ E;omega
   subst X;rw[DM (p.cons_inv) (Vn.mp h).2 (Vn.mp H).2]
def Iu(h:βt 0)(H:0<vs.l):δH 0=pure oneType':=by
 cases h with
 |nil=>simp at H
 |cons n t r=>
  cases r with
  |nil=>
   rw[keyKind'_eq,List.mapM_toArray,mapM_first_ints<|.cons n t .nil];simp only[map_pure,pure_bind];rw[if_neg<|by simp,oneTypeOnly'_eq];simp;rw[show typeOf _=pure _ from rfl]
   simp
  |cons m u r=>exact keyKind_ints<|.cons n t<|.cons m u r
def wO(h:βt 0):vs.l=ns.l/\∀i,i<vs.l->∃t,YK 0=VN (γx 0) t:=by
 induction h with
 |nil=>exact⟨rfl,λi h=>by simp at h⟩
 |cons n t r I=>
  show(by simp[I.1],λi h=>?_);cases i with
  |zero=>exact⟨t,rfl⟩
  |succ i=>simpa using I.2 i (d0 h)
def uA{vs:YX 0}{ns:YV 0}(h:βt 0):∀{q:Z5 0},(∀i∈q,i<vs.l)->aO ((q.map λi=>γx 0).map V.int) (q.map λi=>YK 0)
 |[],_=>.nil
 |i::q,H=>by let(t,e):=(wO h).2 i<|H i vo;simp only[wq,e];show .cons ⟨t,rfl⟩<|uA h λj J=>H j (εs J)
def DN{R:YX 0->g_->Prop}(Y:A.handled=a9)(f:nV w s.heap a ks)(hz:ks.l<=wa)(h:∀H d T g m,(∀b o,tx 0=a8 o->H.get? b=a8 o)->IntsAre g m->m.Perm ks->R g {s with heap:=H,drawn:=d,toks:=T}):l_ (collect<|.ref a) R E s:=by
 let(o,z,U,t,(q),X,D,W,Z,u,p):=f
 have n:z.size=ks.l:=by have:=p.length_eq;simpa using this
 show eg<|wpAny_runValue<|VT PyProof.Rows.entry_proto_collect' ?_
 show(show n7 (newObj _ _ >>= _) _ _ _ from eg (wt<|vh ⟨WU F.plain_list_iadd _,VT PyProof.Rows.entry_list_iadd' ?_⟩))
 have S:(s.heap.push {cls:=.type "list",data:=.seq #[]}).get? (b7 s)=a8 {cls:=.type "list",data:=.seq #[]}:=YU rfl
 have O:(s.heap.push {cls:=.type "list",data:=.seq #[]}).get? a=a8 o:=X4 q
 show(show n7 (Xl (.ref _) _<|.ref _) _ _ _ from ?_)
 show EX (R:=λr j=>match r with|.ok (.ret v)=>αG A (match v with|yg a=>(do let o <-load a;match o.data with|Data.seq xs epoch=>pure xs.toList|x=>unsupported "internal:collect")|x=>unsupported "internal:collect") R E j|.ok _=>False|.error e=>E e j) Y O X D W Z ⋯ _ (Io<|vy q) _ 0 S λH d T c C K y P=>?_
 show(show n7 (load _ >>= _) _ _ _ from eg (wpAny_load y<|vh ?_))
 have L:∀(l),(∀v∈l,∃k T,v=VN k T)->∃m,IntsAre l m/\m=l.map λv=>zB (0,v):=by
  intro l
  induction l with
  |nil=>intro _;exact I1b [] .nil rfl
  |cons v l I=>
   intro V
   let(k,T,rfl):=V v vo
   let(m,(i),e):=I λv h=>V v<|vr _ h
   exact⟨k::m,.cons k T i,by rw[e];rfl⟩
 let(m,i,e):=L _ λv V=>by
  let(x,X,rfl):=v7.mp<|P.mem_iff.mp V
  let(k,T,rfl):=u x X
  exact I2a k T rfl
 show h H d T _ m (λb o e=>K b o (wc<|vy e)<|vi _ e) i ?_
 rw[e]
 show(P.map _).trans ?_
 rw[w9]
 exact(show z.toList.map (λx=>zB _)=z.toList.map zB from y4 λx _=>rfl)▸p
section
variable{k:Nat}
def Iv(c:X.calm=true):δA (.type "set") (λx H Q=>∃l N,x=[.ref l]/\αK l (N.map V.int)/\N.l<64/\∀a,H a=a9->Q (.ref a) (Zt<|Nu X.w a<|ddI N)):=by
 rintro P s d H x U Q I r ⟨l,N,rfl,m,y,q⟩;let(u,rfl,R):=εw 0;subst R;let(i,(v),L,Z):=I.list m;let n:=v.l;rw[vn]at n;show HU (I.ok.hd c) L.isList (by simpa using intsAre_of v) (by simp[scanBound];omega) λz T S j=>?_
 let t:(Wv i).size=N.l:=by simpa using n.symm
 rw[t,DL]at S;have:∃o,z.get? (b7 s)=a8 o:=let ⟨o,_,_,_,e,_⟩:=S;⟨o,e⟩;show I2c (.ref _) _ (I.laid (o:=Nu X.w _ _) j (vk _) ⟨S,this,λg f p k=>nV.kept p k⟩) rfl<|q _ I.fresh
def Fx(D:X.calm=true):δA (.builtin "sorted") (λf H Q=>∃a K,f=[.ref a]/\H a=a8 (Nu X.w a K)/\K.l<64/\∀l,H l=a9->Q (.ref l) (x_ l<|.lst<|(sortI K).map V.int)):=by
 intro n s σ H f us Q I r h;let(a,K,rfl,G,L,q):=h;let(u,rfl,ru):=εw 0;subst ru;show Bq (κ:=oneType') (λT S=>∃m,Yq n σ H S/\IntsAre T m/\m.Perm K) (DN (I.ok.hd D) ((βq G).1) (by rw[yt];omega) λU d tk vs m P i E=>(I1c m ((I.drn d).kept P) i E)) ?_;show λT S z4=>E1c z4 λm x i E=>?_;let(C,g):=wO i;let l2:=E.length_eq;show(⋯,λi j=>decide (m.getD i 0<m.getD j 0),λi j k z J hk M v=>by simp only[decide_eq_false_iff_not] at *;omega,λi j _ _ h=>by simp only[decide_eq_true_eq,decide_eq_false_iff_not] at *;omega,λA' s' P O c E' y=>?_,λs' P i j z J c y=>?_,λp U e A b P B=>?_)
 ·rw[Iu i O];show vh y
 ·let(t,Z):=g i z;let(u,Y):=g j J;rw[Z,Y];show W.kat_lt_int y
 ·let N:∀i∈p,i<T.l:=λi z=>by
   have:=A.mem_iff.mp z
   rwa[Wi]at this
  let F:(p.map λi=>m.getD i 0)=sortI K:=by
   show DM ?_ ?_<|Kc K
   ·show List.Perm.trans ?_ (sortI_perm K).symm;show List.Perm.trans ?_ E;show(A.map _).trans ?_;have:(xf T.l).map (λi=>m.getD i 0)=m:=by
     apply Xw
     ·simp[C]
     ·intro i M v;simp[v]
    rw[this]
   ·rw[yy];show b.imp λh=>?_;simp only[decide_eq_false_iff_not]at h;omega
  let R:=uA i N;rw[F]at R;show I2c (.ref _) _ (x.laid (o:=.lst _) P (vk _) ⟨?_,_,e,R,B⟩) rfl<|q _ x.fresh;rw[vn,(sortI_perm K).length_eq,yt];omega
abbrev lQ:PV->PH->Yv 0:=λx h=>match x with
 |.ref n=>match Ym n with
  |some ys=>match zK ys with
   |some ns=>if ns.l<64 then .ok (.ref h.l) (h++[.lst<|(sortI<|ddI ns).map PV.int]) else .bad
   |none=>.bad
  |none=>.bad
 |_=>.bad
def DO{φ:k_ h_}{H:Hp}:∀(n:YV 0),p5 (n.map PV.int) (n.map V.int)
 |[]=>trivial
 |_::n=>⟨rfl,DO n⟩
open H in
def Iw{p cy:Pos}(W:n_ e me)(hb:("sorted" : Str)∈C.bs)(B:("set" : Str)∈C.bs)(G:wP (Zu "sorted" ) zn)(g:wP (Zu "set" ) zn)(s:wP (wj [e] X.env=(false,A5 0)::wj [] X.env) zn)(P:wP ((backTo cy<|wj [] X.env).any (·.1)=false) zn)(S:wP (wj [.Call (.Name "set" p2) [e] [] cy] X.env=(false,eval (.Call (.Name "set" p2) [e] [] cy) X.env)::wj [] X.env) zn)(y:wP ((H_<|wj [] X.env).any (·.1)=false) zn):
  n_ (.Call (.Name "sorted" p) [.Call (.Name "set" p2) [e] [] cy] [] pos) (mUn lQ me):=λc=>
 (yK (Fx c.calm) G (c.bn _ hb) PyProof.Rows.Boot.«sorted» (mJ (Bg (Iv c.calm) g (c.bn _ B) PyProof.Rows.Boot.«set» (mJ (W c) uU s) (by decide) (by decide) s P) uU S) (by decide) (by decide) S y).imp λσ H Q h=>by
  let(M,N,h,(R),T,p):=h;show I3c M N h R T<|(αh 0).imp ?_;show λv d z9=>E3e z9 λm x j I F r V q=>?_;unfold lQ at q;split at q
  ·let(a,(z0),Z):=V;subst z0;split at q
   ·rename_i ys Y;split at q
    ·rename_i n E;let(z,q):=q.ite;let(J,D,(A),i,u):=bZ r Y;rw[Z]at A;cases A
     rw[Cj u E]at i;show I2d a n rfl (by rw[c.K];show i) z λb hb=>?_;show I2d b (ddI n) rfl aL (y3 (Nv n) z) λl L=>?_;let U:ZG m (upd d b<|Nu X.w b<|ddI n) (.ok (.ref _)<|j++[.lst<|(sortI _).map _]) Q:=λo v f p t R O=>q o v f p ((Kp.new hb).trans t) R O;show U.lnew (r.same<|wX.upd hb) (DO _) L
    ·show q.elim
   ·show q.elim
  ·show q.elim
end
open PySem.SeqAt PySem.W
variable{kb:Nat}
def DP{kss:E_ 0}(L:kss.l=ys.l)(O:OkN kb kss)(S:∀a∈kss.zip ys,∀c∈kss.zip ys,a.1=c.1->a.2=c.2){p:Z5 0}(v:p.Perm (xf ys.l))(o:p.Pairwise (λi j=>(if b then ltN (kss.getD i .non) (kss.getD j .non) else ltN (kss.getD j .non) (kss.getD i .non))=false)):p.map (λi=>ys.getD i .non)=(βd<|eZ Prod.fst<|kss.zip ys).map (·.2):=by
 letI z:=kss.zip ys;let l:z.l=ys.l:=by change(kss.zip ys).length=_;simp[L]
 let n:∀i∈p,i<ys.l:=λi H=>by simpa using v.mem_iff.mp H
 let g:∀i,i<ys.l->γF (.non,.non)=(kss.getD i .non,ys.getD i .non):=λi H=>by
  let w:i<kss.l:=⋯;let r:(kss.zip ys)[i]?=a8 (kss[i],ys[i]):=by rw[List.getElem?_zip_eq_some];show(by simp,by simp)
  change(kss.zip ys).getD i _=_
  simp[w,H,r]
 let P:(p.map λi=>γF (.non,.non)).Perm z:=Br (by rw[l];show v);let m:z.map (·.1)=kss:=by
  change(kss.zip ys).map _=kss
  show List.map_fst_zip ⋯
 let s:∀y∈z,y.1∈kss:=λy Y=>by rw[<-m];show v7.mpr ⟨y,Y,rfl⟩
 let I:∀a∈z,∀c∈z,enc _=enc _->a=c:=λa A c C e=>by let E:=O.inj _ (s a A) _ (s c C) e;show Prod.ext E<|S a A c C E
 let u:p.map (λi=>ys.getD i .non)=(p.map λi=>γF (.non,.non)).map (·.2):=by rw[w9];show y4 λi H=>by change _=(γF _).2;rw[g i<|n i H]
 rw[u];let k:∀(R:Nat->Nat->Bool),p.Pairwise (λi j=>R i j=false)->(∀i j,i<ys.l->j<ys.l->R i j=ltN (z.getD j (.non,.non)).1 (γF _).1)->(p.map λi=>γF _).Pairwise (λx y=>ltN y.1 x.1=false):=λR w t=>by rw[yy];show w.imp_of_mem λ{i j} H J h=>by rw[<-t i j (n i H) (n j J)];show h
 cases b with
 |false=>
  congr 1;show vD _ I P (k (λi j=>ltN _ _) o λi j H J=>by rw[g i H,g j J])
 |true=>
  congr 1;let q:(p.map λi=>γF (.non,.non)).reverse=eZ Prod.fst z:=by show vD _ I ((βi 0).trans P) ?_;rw[List.pairwise_reverse,yy];show o.imp_of_mem λ{i j} H J h=>by rw[g i<|n i H,g j<|n j J];show h
  change _=(eZ _ z).reverse
  rw[<-q,List.reverse_reverse]
def Iy:Wj "enumerate" = a8 (.type "enumerate"):=by rfl
abbrev rvX(n i:Nat):Int:=if i<n then((n-1-i:Nat):Int) else -1
abbrev Qr(K:vj)(l:h_)(n:Nat):It:=⟨λi H=>∃vs v,Yu l vs/\vs.l=n/\vs.reverse[i]?=a8 v,λi H x H'=>H'=H/\∀vs,Yu l vs->vs.reverse[i]?=a8 x,λi _=>n<=i⟩
def Ke(a it)(n):βJ tg (Qr K a n) [it] it (λi h=>h.IsRevIter it a<|rvX n i) where
 mem:=by simp
 obj:=λi h t b B=>by
  let e:b=it:=by simpa using B
  subst e;let(o,(e),c,d):=t;show ZX e λv z=>by rw[d]at z;exists z
 keep:=λi h j t k=>t.at λo e=>k it (by simp) o e
 item:=by
  show λX V T Y C i N s R H E I f t z5=>E2c z5 λxs x Q J y=>?_;subst V T Y;let(A,(rv),p,hz):=I.list Q;let U:=(vg.mp y).1;rw[Xy]at U;let Z:xs[n-1-i]?=a8 x:=by rw[List.getElem?_reverse U]at y;rw[<-J];show y
  let(u,(G),ru):=rv.get Z;let((F),r,L,q,m,l):=(f it<|by simp);rw[show rvX n i=((n-1-i:Nat):Int) from if_pos ⋯]at t
  show wpAny_pyNext_rev_item t p.isList (d0 G) λj S sb=>?_;let O:Yq N R H {s with heap:=j}:=I.turned (λb o B e=>(sb.2 b B).trans e) F r q m l;let(o,(e),c,d):=id S;rw[show((n-1-i:Nat):Int)-1=rvX n (i+1) by unfold rvX;split <;> omega]at S;show(u,rfl,G8 e c d (by decide)<|I2e x H O ru ⟨rfl,λys D=>by rw[I.list_inj D Q];show y⟩ S λb B=>(f b B).1)
 done:=by
  intro X V T Y C i N s R H E I f t g;let g:n<=i:=g;let((F),r,L,q,m,l):=(f it<|by simp);rw[show rvX n i=-1 from if_neg ⋯]at t
  show wpAny_pyNext_rev_end (I.ok.hd C) t λj M=>⟨rfl,I.turned (λb o B e=>M b o B e) F r q m l⟩
 self:=λ_ _ _ _ _ t h=>wpAny_pyIter_revIter t h
abbrev iRv(X:Cx)(ta:TA):TI:=λσ H R=>ε4 H λvs H1=>∃l xs,vs=[.ref l]/\SqL X.K H1 l xs/\R (Qr X.K l xs.l) H1
def Qs{a:j_}{ta:TA}{p:Pos}(g:Zu "reversed")(m:X.mg "reversed" = a9)(A:PA X [a] ta)(w:wP (wj [a] X.env=[(false,eval a X.env)]) zn):
  PI X tg (.Call (.Name "reversed" p) [a] [] pos) (iRv X ta):=by
 show λn s f H R I h=>Call_<|oE I g m boot_reversed<|Wn (thn (A pos n s f H _ I h) λU S z0=>E2c z0 λd y z u v=>?_) w rfl;let(l,x,(e),Q,q):=v;subst e;cases u with
 |cons r j=>
  cases j
  subst r;let(i,(V),P,Z):=z.list Q;show call_reversed_list P.isList ?_;let t:(S.heap.push<|revObj l<|(i.toArray.size:Int)-1).IsRevIter _ l ((i.toArray.size:Int)-1):=βw (YU rfl) rfl rfl;show wpAny_pyIter_revIter t ?_;let L:=V.l;let E:((i.toArray.size:Nat):Int)-1=rvX x.l 0:=by rw[v9];unfold rvX;split <;> omega
  rw[E]at t⊢;show I5f S.heap.objs.size [S.heap.objs.size] _ _ y rfl (z.kept λb o e=>X4 e) (Ke l _ _) t (λb B=>?_) q;let e:b=S.heap.objs.size:=by simpa using B
  subst e;show z.fpOk (vk _)<|z.hok.fresh<|vk _
abbrev rvI:E_ 0->PH->Rs Wk:=λps h=>match ps with
 | [.ref n]=>(match Ym n with
   |some xs=>.ok ⟨xs.reverse,tT n xs⟩ h
   |none=>.bad)
 |_=>.bad
abbrev Kf(ms:Ma):Mi:=λδ h=>(Yh h).bind rvI
open H in
def T4{k:Nat}{x:j_}{p:Pos}(W:YN [x] ms)(hb:wP (("reversed" : Str)∈C.bs) xL)(g:wP (Zu "reversed" ) zn)(Q:wP (wj [x] X.env=[(false,eval x X.env)]) zn):
  SI C k X tg (.Call (.Name "reversed" p) [x] [] pos) (Kf ms):=λc=>
 (Qs g (c.bn _ hb) (W c) Q).imp λσ H R h=>by
  let(φ,δ,h,(F),G,p):=h;show I3c φ δ h F G<|(postA.bindI p).imp ?_;show λvs m z8=>εj 0 λo f Z p1 t1 r V q=>?_;unfold rvI at q;split at q
  ·rename_i n;let(v,rfl,(a,rfl,A)):=V.one;cases e:aJ Z n with
   |none=>rw[e]at q;show q.elim
   |some f=>
    rw[e]at q;let(a2,s,(z),j,J):=bZ r e;rw[A]at z;cases z;rw[<-c.K]at j;show I2c a s rfl j<|q o m (Qr X.K a _) vt (Kp.refl m) r λφ2 H2 l N t2 t g i=>?_;let g:(match aJ l n with|some d=>PV.beqs d f|none=>false)=true:=g
    cases E:aJ l n with
    |none=>rw[E]at g;exists g
    |some d=>
     rw[E]at g;let Y:=PV.beqs_eq g;subst Y;let(a3,u,(w),S,U):=bZ t E;rw[dG N A]at w;exists w;rw[<-c.K]at S;let L:=U.l;let b:u.l=s.l:=by rw[<-L,J.length]
     rw[Xy];show(λT=>?_,λT=>by change s.l<=i;omega);let I:i<u.reverse.l:=by simp_all
     show((I2c u (u.reverse[i]) S b<|by rw[zf I]),λy H' B=>?_);let(rfl,O):=B;let(M,(P),D):=U.reverse.get<|O u S;show(⟨M,P,D⟩,γd 0,t)
  ·show q.elim
abbrev mX:PV->E_ 0->PH->Yv 0:=λx ps h=>match x,ps with
 |.ref n,[.ref m]=>match cD h n,cD h m with
  |some xs,a8 ys=>if xs.l+ys.l<=wa then .ok .non (P_<|.lst<|xs++ys) else .bad
  |_,_=>.bad
 |_,_=>.bad
open H in
def Iz:MtR X "list.extend" (rM C mX):=MtR.imp (Hx) λx q H Q h=>by
 let(l,h,p,P,r,u,S,o):=h;unfold mX at o;split at o
 ·rename_i n m;let(a,rfl,A):=u;let(v,rfl,(b,rfl,B)):=S.one;cases e:cD h n with
  |none=>rw[e]at o;show o.elim
  |some U=>
   cases E:cD h m with
   |none=>rw[e,E]at o;show o.elim
   |some W=>rw[e,E]at o;let(t,(z),R):=Z1 A<|gL e;let(s,(w),y):=r.at' m b _ B<|gL E;let(Z,o):=o.ite;show I4f a b t s rfl rfl z w (by rw[<-R.length,<-y.length];show Z)<|o.lset r A z (R.append y) rfl
 ·show o.elim
def Kg{k:Nat}:γC "list" isL "list.extend" mX:=λc=>⟨Iz,λz H h p x r v e=>Cf r v e⟩
def IA{m:Nat}(e:h[n]?=a8 (.lst xs))(E:h[m]?=a8 (.lst ys))(c:xs.l+ys.l<=16777216):mX (.ref n) [.ref m] h=.ok .non (P_<|.lst<|xs++ys):=by
 let a:cD h n=a8 xs:=by simp[cD,e]
 let A:cD h m=a8 ys:=by simp[cD,E]
 unfold mX;simp only[a,A];rw[if_pos<|by assumption]
abbrev oU(f:Fn):Me:=λ_ h=>f [] h
def Nw{k:Nat}{p:Pos}{f:Fn}(D:Z8 x st a fd ps)(G:q_ a fd ps (βV 0 f))(J:wP (j<=k) xL)(g:wP (Zu x) zn)(d:wP ((x == ("__debug__" : Str))=false) xL):n_ (.Call (.Name x p) [] [] pos) (oU f):=λc=>by
 let e:=c.K;let z:Def X.K X.mg x st a fd ps:=by rw[e];show D
 show(J6 (by rw[e];show G) (γ0 0) g z.mg z.fn.kp z.bd .nil Bj d).imp λu H Q h=>?_;let(y,v,h,(r),R,p):=h;show I3d y h [] r trivial rfl p
@[simp]theorem R8{f:Fn}:oU f δ h=f [] h:=rfl
abbrev GEs(P:Params):k_ (Str×Str)->k_ Xc->Prop
 |[],[]=>True
 |kv::r,e::es=>e.hash=PyData.keyHash P kv.1/\(∃t,e.key=.str kv.1 t)/\(∃t,e.val=.str kv.2 t)/\GEs P r es
 |_,_=>False
abbrev T5(C:MC)(a:h_)(kvs:k_ (Str×Str)):Prop:=(a == zx)=false/\(kvs.map λkv=>(Wg kv.1:Key)).Nodup/\∃es ep,C.K.lookup a=a8 ⟨.type "dict",a9,.dict es ep,#[]⟩/\GEs C.w.params kvs es.toList
abbrev wQ:k_ (Str×Str)->Str->l7 Str
 |[],_=>a9
 |kv::r,z=>if kv.1=z then a8 kv.2 else wQ r z
abbrev gdV(o:l7 Str):PV:=match o with
 |some v=>.str v
 |none=>.non
abbrev vGd(kvs:k_ (Str×Str)):PV->PH->Yv 0:=λp h=>match p with
 |.str z=>.ok (gdV<|wQ kvs z) h
 |_=>.bad
def BH{P:j3}{w:j2}:∀{kvs:k_ (Str×Str)}{es:k_ Xc},GEs w.params kvs es->∃V,Pairs (bH P w) es V/\V.map (·.1)=(kvs.map λK=>(Wg K.1:Key))/\(∀e∈es,∃k,(bH P w).is k e.key=true/\e.hash=(bH P w).hash k)/\
  ∀z,match wQ kvs z with
   |some v=>∃t,valueAt V (Wg z:Key)=a8 (.str v t)
   |none=>valueAt V (Wg z:Key)=a9
 |[],[],_=>I1d [] .nil rfl (λ_ h=>nomatch h) λz=>rfl
 |K::r,e::es,⟨u,⟨l,o⟩,⟨T,n⟩,m⟩=>by
  let(V,p,q,s,v):=BH m;let i:(bH P w).is (Wg K.1:Key) e.key=true:=by rw[o];show vY P w _ _
  show I1d (((Wg K.1:Key),e.val)::V) (.cons i rfl p) (by rw[wq,wq,q]) (λx H=>?_) λz=>?_
  ·rcases v8.mp H with rfl|H
   ·show A0 i u
   ·show s x H
  ·let y:=v z;unfold valueAt at y⊢;unfold wQ;rw[List.find?_cons];by_cases c:K.1=z
   ·subst c;simp;show(T,n)
   ·simp only[βh 0,decide_eq_false<|λq=>c<|Sum.inr.inj q];show y
 |[],_::_,h=>h.elim
 |_::_,[],h=>h.elim
def Nx{k:Nat}{kvs:k_ (Str×Str)}{p:Pos}(hm:X.mg x=a_ a)(g:T5 C a kvs)(he:n_ e m)(hg:wP (Zu x) zn)(hd:wP ((x == ("__debug__" : Str))=false) xL)(q:wP (Wh (.Name x p) "get" X.env (eval (.Name x p) X.env)=eval (.Name x p) X.env) zn)(u:wP (((Y6 (wj [e] X.env)).all (λx=>!x.1)&&(δE (keywordEach [] X.env)).all (λx=>x.1.isSome)
   && decide (([e]:k_ j_).length+([]:γj 0).length+(if([]:γj 0).isEmpty then 0 else 1)<30))=true) zn)(iu:wP ((apos.endLine == ae.line)=true) zn)(hs:wP (Y6 (wj [e] X.env)=[(false,A5 0)]) zn):n_ (.Call (.Attribute (.Name x p) "get" apos) [e] [] ae) (mUn (vGd kvs) m):=λc b s y H Q I q=>by
 let(φ,δ,h,rh,re,po):=q;let(g1,g2,es,ep,g3,g4):=g;rw[<-c.w]at g4;rw[<-c.K]at g3;let(vs,p1,p2,p3,p4):=BH g4;let dd:∀{n s'},Yq b y n s'->s'.heap.DictOf (γT 0) a vs:=λj=>I3f _ es ep (j.bk _ _<|j.mod.kin _ _ g3) ⟨rfl,rfl,rfl⟩ rfl (λx hx=>p3 x<|d0 hx) p1 (by rw[p2];show g2);show wpAny_Call_method q u iu WZ Wu PySem.F.type_dict_get<|thn (xG (v:=.ref a) hg hm rfl hd b s y H (λv n=>v=.ref a/\n=H) I ⟨rfl,rfl⟩) λu s1 z0=>E2d z0 λx i r rx ex eH=>?_;subst ex eH;obtain rfl:u=yg a:=rx;show((dd r).typeIs,λb eb=>?_,?_)
 ·cases eb
  show A0 (r.bk _ _<|r.mod.kin _ _ g3) rfl
 rw[hs];show Wp rfl<|Calls.evalArgs_plain<|Calls.spliced_cons<|thn (he c b s1 y i _ r<|I3c φ δ h rh re<|post.bind po) ?_;rintro iv s2 ⟨y,l,o,ry,φ2,py,h2,p22,t2,I,rv2,s⟩;show Calls.spliced_nil ?_;cases py with
 |str z=>
  obtain rfl:y=.str z:=rv2;let s:ZG φ2 l (.ok (gdV _) h2) Q:=s;let sj:RelV (kV (Wg z:Key)) iv:=ry;show call_meetsIn Wu (dd o).typeIs PySem.F.entry_dict_get (PySem.F.args_dict_get_2 _ _) (meets_dict_get (bH _ X.w) a (tG sj) g1)<|I1b _ ((dd o).mapOf) ?_;let Q:=p4 z;cases e1:wQ kvs z with
  |none=>rw[e1]at Q s;rw[Q];show I2c .non l (o.tok _) rfl<|s.val I rfl
  |some v=>rw[e1]at Q s;let(t,Q):=Q;rw[Q];show I2c (.str v) l (o.tok _) ⟨t,rfl⟩<|s.val I rfl
 |_=>exact s.elim
abbrev qY(n:Nat):k_ (Str×PV)->PH->Yv 0
 |[],h=>.ok (.ref n) h
 |p::r,h=>match h[n]? with
  |some (.dK kvs)=>if kvs.l<wa then qY n r (P_<|.dK<|dW kvs (.inr p.1) p.2) else .bad
  |_=>.bad
abbrev rX(zs:S2 0)(ms:Ma):Me:=λδ h=>(Yh<|h++[.dK []]).bind λps h1=>qY h.l (zs.zip ps) h1
inductive SDs(C:MC)(k:Nat)(X:Cx):k_ (l7 Expr)->k_ Expr->k_ Str->Ma->Prop
 |nil:SDs C k X [] [] [] aC
 |cons {ke ve:Expr} {z:Str} {m:Me} {ks:k_ (l7 Expr)} {vs:k_ Expr} {zs:k_ Str} {ms:Ma}:SE C k X ke (mC (.str z))->SE C k X ve m->SDs C k X ks vs zs ms->SDs C k X (some ke::ks) (ve::vs) (z::zs) (aA m ms)
abbrev PrR:S2 0->k_ V->k_ (gV×gV)->Prop
 |[],[],[]=>True
 |z::zs,x::xs,u::us=>RelV (.str z) u.1/\P2 u.2/\PrR zs xs us
 |_,_,_=>False
section
variable{k:Nat}{ke ve:j_}{ks:k_ (l7 j_)}{vs:k_ j_}{zs:S2 0}{σ:St}
def T6:δX [] [] [] aC:=.nil
def Fy(h:n_ ke (mC<|.str z))(v:n_ ve m)(s:δX ks vs zs ms):δX (a8 ke::ks) (ve::vs) (z::zs) (aA m ms):=.cons h v s
def Kh(c:A1 X)(D:δX ks vs zs ms):∀{s:g_}{H:Hp}{φ:k_ h_}{δ:Ev}{h:PH}{Q:k_ V->Hp->Prop},u_ s->p7 h->F_ 0->Yz (Yh h) Q->
  wpAny (c3 X) X.A (evalPairs<|pairTrees ks vs X.env pos) (λb s'=>∃S r,c8 r s'/\PrR zs S b/\Q S r) X.xe s:=by
 induction D with
 |nil=>exact λ{s H φ δ h Q} I o R p=>evalPairs_nil (I2c [] H I trivial<|p φ [] H vt (γd 0) o trivial)
 | @cons ke ve z m ks vs zs ms O N _ M=>intro s H φ δ h Q I o R p;show evalPairs_cons<|thn (O c c6 s σ H (λv r=>v=.str z/\∃u,φ<+:u/\XT r/\YG u r h) I<|I3c φ δ h o R λu v r p t n B=>⟨B,u,p,t,n⟩) ?_;rintro ku s1 ⟨x,a,Z,K,rfl,f,P,T,l⟩;show eg<|thn (N c c6 s1 σ a _ Z<|I3c f δ h l (αA T)<|post.bindA<|postA.weak P T p) ?_;rintro vu s2 ⟨y,H2,Y,U,φ2,py,h2,L,t2,j,ry,F⟩;show eg<|wpAny_standAt<|vh ?_;show zh (M Y j ((αA T).mono L t2)<|postA.bindA F) ?_ λ_ _ e=>e;rintro b s3 ⟨S,q,W,G,d,ps,h3,J,t3,i,g,E⟩;show I2c (y::S) q W ⟨K,U,G⟩<|E d _ q vt (Kp.refl q) i ⟨ry.mono J t3,g⟩
def Ki{d:h_}{Q:VK}:∀{zs:S2 0}{xs:k_ V}{us:k_ (gV×gV)}{ps:E_ 0}{s:g_}{H:Hp}{φ:k_ h_}{h:PH},PrR zs xs us->p5 ps xs->φ[n]?=a8 d->u_ s->p7 h->v_ (qY n (zs.zip ps) h) Q->
  wpAny (c3 X) X.A (storeAll d us) (λ_ s'=>X3 Q (.ref d) s') X.xe s:=by
 intro zs
 induction zs with
 |nil=>
  intro xs us ps s H φ h pr _ hn I rh p;cases xs with
  |cons=>exact zb pr
  |nil=>
   cases us with
   |cons=>exact zb pr
   |nil=>exact vh ⟨.ref d,H,I,rfl,p φ (.ref d) H vt (γd 0) rh<|I1b d rfl hn⟩
 |cons z zs ih=>
  intro xs us ps s H φ h pr rv hn I rh p;cases xs with
  |nil=>exact zb pr
  |cons x xs=>
  cases us with
  |nil=>exact zb pr
  |cons u us=>
  cases ps with
  |nil=>exact zb rv
  |cons y ps=>
  let p:v_ (qY n ((z,y)::zs.zip ps) h) Q:=p;unfold qY at p;cases e:h[n]? with
  |none=>rw[e]at p;show p.elim
  |some o=>
   rw[e]at p;cases o with
   |dK kvs=>
    let(hl,p):=p.ite;let(ks,(hH),rk):=rh.at' _ d _ hn e;let(zl,hd,vs,rel,dd):=γs hH;let ql:vs.l<=wa:=by rw[<-rel.length];show zl
    let el:kvs.l=ks.l:=yr rk;let kx:RelV (kV (Wg z:Key)) u.1:=pr.1;unfold storeAll;rw[List.forIn_cons];show eg<|eg<|wpAny_dictSet_pairs (tG kx) dd (hsz:=ql) λh' du hs=>vh ?_;let gg:(putK ks (Wg z:Key) x).length<=wa:=vz (jP ks (Wg z:Key) x)<|el▸hl;let he:∃q,h'.get? d=a8 q:=let ⟨q,_,_,hq,_⟩:=du;⟨q,hq⟩;let nt:yT (H d):=by rw[hH];show Vt
    let I2:=tH (t':=s.toks+1) I (by rw[hH];show Vt) hs he<|yO gg hd (rel.put _ pr.2.1) du;show ih pr.2.2 (rv.2.mono vt<|Kp.upd nt) hn I2 (rh.write (u:=.dK<|putK ks (Wg z) x) (o:=.dK<|dW kvs (Wg z) y) hn nt<|I1b _ aL<|RKv.mono vt (Kp.upd nt)<|zO rk (Wg z:Key) rv.1)<|post.weak vt (Kp.upd nt) p
   |_=>exact p.elim
def Ny(hd:δX (a8 ke::ks) (ve::vs) zs ms)(ha:wP ((a8 ke::ks).all (·.isSome)=true) zn)(hl:wP ((a8 ke::ks).length=(ve::vs).length) zn)(hn:wP ((a8 ke::ks).length<=15) xL):n_ (.Dict (a8 ke::ks) (ve::vs) pos) (rX zs ms):=λc c6 s σ H Q I z0=>E3c z0 λφ δ h rh re p=>by
 show wpAny_Dict_any ha hl (λz=>nomatch z) hn ?_;let fr:H (b7 s)=a9:=I.fresh;let I1:c8 (x_ (b7 s)<|.dK []) {s with heap:=s.heap.push {cls:=.type "dict",data:=.dict #[]} }:=I.laid (a:=(b7 s)) (o:=.dK []) (t':=s.toks) (λ_ _ q=>X4 q) (vk _)<|yP s.heap I.big;let jw:YG (φ++[(b7 s)]) (x_ (b7 s)<|.dK []) (h++[.dK []]):=rh.new fr<|I1b [] aL .nil;let u3:=re.mono (wz φ [(b7 s)])<|Kp.new (o:=.dK []) fr;let jj:(φ++[(b7 s)])[h.length]?=a8 (b7 s):=by rw[<-rh.len];simp
 let p1:ZG (φ++[(b7 s)]) (x_ (b7 s)<|.dK []) (rX zs ms δ h) Q:=post.weak (ζn _) (Kp.new fr) p;generalize (b7 s)=d at*;generalize φ++[d]=φ0 at*;show zh (Kh c hd I1 jw u3<|postA.bind p1) ?_ λ_ _ e=>e;rintro us s1 ⟨xs,H1,I1',pr,φ1,ps,h1,pf1,t1,i3,rps,q1⟩;show Ki pr rps (dG pf1 jj) I1' i3 q1
end
@[simp]theorem R9{zs:S2 0}:rX zs ms δ h=(Yh<|h++[.dK []]).bind λps h1=>qY h.l (zs.zip ps) h1:=rfl
open PySem.W
abbrev bN:Ms:=λ_ _=>.bad
def T7{k:Nat}:XZ st bN:=λc _ _ σ H _ I h=>by let(φ,δ,h,(rh),re,p):=h;show p.elim
open Classical in
abbrev Ae:E_ 0->PH->Yv 0:=λxs h=>if ∃n,xs=[.ref n]/\h[n]?=a8 (.lst []) then .ok (.ref h.l) (h++[.dK []]) else .bad
section
variable{k:Nat}{σ:St}
def B8{k:Nat}(q:A.handled=a9)(x:C_ 0=a8 o)(c:o.cls=.type "list")(d:o.data=.seq #[] k)(D:o.dict=a9)(h:∀H t,H.get? (b7 s)=a8 {cls:=.type "dict",data:=.dict #[]}->(∀b u,tx 0=a8 u->H.get? b=a8 u)->Q (.ref<|b7 s) {s with heap:=H,toks:=t}):
  l_ (call (.type "dict") [.ref a]) Q E s:=by
 show callType_codes (Q₁:=λj S=>j=.ref _/\S={s with heap:=s.heap.push {cls:=.type "dict",data:=.dict #[]} }) F.kt_called_dict (F.kt_typeCall_dict_1 _) F.entry_dict_init (kt_code_dict_new _ ⟨rfl,rfl⟩) ?_;rintro j S ⟨rfl,rfl⟩;let n:(s.heap.push {cls:=.type "dict",data:=.dict #[]}).get? (b7 s)=a8 {cls:=.type "dict",data:=.dict #[]}:=YU rfl;let U:∀b u,tx 0=a8 u->(s.heap.push {cls:=.type "dict",data:=.dict #[]}).get? b=a8 u:=λb u e=>X4 e;let m:({s with heap:=s.heap.push {cls:=.type "dict",data:=.dict #[]} }:g_).TypeIs (.ref _) "dict" := ⟨_,n,rfl⟩;let T:({s with heap:=s.heap.push {cls:=.type "dict",data:=.dict #[]} }:g_).TypeIs (.ref a) "list" := ⟨o,U _ _ x,c⟩;show(m,F.args_dict_init_2 _ _,?_);show eg ?_;unfold Builtin.Dict.selfAndRest;show eg (Wx m<|show n7 (pure _) _ _ _ from vh ?_)
 change n7 (Builtin.Dict.updateFrom "dict.__init__" (b7 s) _ [] .none) _ _ _
 show eg<|Wt T ?_;show eg<|Cp (U _ _ x) c d D q λr v p=>?_;show eg<|W5 ?_;let y:r.IsList a #[]:=⟨o,p _ _<|U _ _ x,c,k,d⟩;show eg<|wpAny_pyIter_list (s:={s with heap:=r,toks:=v}) y (vh ⟨WU kL _,VT kK ?_⟩);let l:=vy<|p _ _ n;let(O,i,R):=y;show eg<|(Walks.list (A:=A.in1.in1) q _ a (wc<|Xd (vy x) l) #[]).done _ _ _ ⟨⟨_,YU rfl,rfl,rfl⟩,O,X4 i,R⟩ λH t K=>?_
 change n7 (Builtin.Dict.addKeywords _ [] >>= _) _ _ _
 show eg<|vh<|vh ⟨rfl,h H t (βW (λz=>wc l<|vx.mp z)<|vi _<|p _ _ n) λb u e=>K b u ((λb u e z=>wc (Xd (vy e) l)<|vx.mp z) b u e)<|vi _<|p _ _<|U _ _ e⟩
open H in
def Nz:Zp (.type "dict") Ae:=λc P s Y H b g Q I r h=>by
 let(W,h,j,(R),o,p):=h;unfold Ae at p;split at p
 ·rename_i e;let(n,rfl,K):=e;let(v,rfl,(a,rfl,A)):=o.one;let(u,rfl,U):=εw 0;subst U;let(S,(y),V):=δS A K;cases S with
  |cons _ _=>exact V.elim
  |nil=>
  let(Z,t,m,i,l,x):=I.lstM y;cases i
  show B8 (Zh 0) x rfl rfl rfl λz T D q=>?_;let f:H _=a9:=I.fresh;let d:z.DictOf (γT 0) _ []:=I3f _ (#[]) _ D ⟨rfl,rfl,rfl⟩ rfl (λe E=>by simp at E) .nil W6;show I2c (.ref _) _ (I.laid q (vk _)<|yO (w6 _) (beq_eq_false_iff_ne.mpr<|xy<|wc I.big) .nil d) rfl ?_;show p _ _ _ (ζn _) (Kp.new f) (R.new f<|I1b _ aL .nil) ⟨_,rfl,by rw[<-R.len];simp⟩
 ·show p.elim
end
def IB(e:h[n]?=a8 (.lst [])):Ae [.ref n] h=.ok (.ref h.l) (h++[.dK []]):=if_pos ⟨n,rfl,e⟩
@[reducible]def xo(a:h_)(p:Obj->Prop):HO:=.ext λh=>∃o,YC 0=a8 o/\p o
def Kj{h:jo}{p:Obj->Prop}(e:∃o,YC 0=a8 o/\p o):Yj (xo a p):=⟨e,let ⟨o,q,_⟩:=e;⟨o,q⟩,λ_ _ z0 k=>E1b z0 λo q r=>(ZX (k o q) r)⟩
section
variable{σ:St}{p q:Obj->Prop}{f:Obj->Obj}
def Inv.xo(I:u_ s)(h:H a=a8 (xo a p)):∃o,C_ 0=a8 o/\p o:=(I.hok _ _ h).1
def Inv.xoNew(I:u_ s)(O:q o)(h:o.isFreed=false):c8 (x_ (b7 s)<|_L.xo (b7 s) q) {s with heap:=s.heap.push o,toks:=t'}:=I.laid (λb u e=>X4 e) (vk _)<|Kj<|I1b o (YU h) O
def Inv.xoPut(I:u_ s)(h:H a=a8 (_L.xo a p))(e:C_ 0=a8 o)(F:(f o).isFreed=false)(Q:q (f o)):c8 (Zt<|_L.xo a q) {s with heap:=A_ f,toks:=t'}:=I.write (by rw[h];trivial) (.inl rfl) (λb u n e=>(zt _ _<|xy n).trans e) ⟨_,yx _ e F⟩<|Kj<|I1b _ (yx _ e F) Q
def Inv.slots{h1:jo}(I:u_ s)(h:Heap.SlotsOnly (frs X.stack) s.heap h1):u_ {s with heap:=h1}:=by
 show I.call (ch:=[]) ⟨λb o e n N _=>(h.2.1 b N).trans e,λb o e n _ _=>h.2.2 b o e,λ_ _ _ n _=>n,λb o e _=>let ⟨sl,q⟩:=h.2.2 b o e;⟨_,q⟩,λ_ _ e=>e,λ_ _ _ e=>e,λb P e=>⟨#[],by rw[e];simp⟩⟩ (λb o e=>?_) I.bare (λb z=>YJ<|by simp);show(γR o e).stay (λc v C q=>(h.2.1 c λz=>?_).trans q) (λ_ q=>q) λ_ _ q=>q;have:=I.stkFree c z;rcases C with rfl|C
 ·rw[e]at this;exists this
 ·rw[C]at this;exists this
end
abbrev pE(C:h_)(dx:l7 h_)(tb:gV):Obj->Prop:=λo=>o.cls=.ref C/\o.dict=dx/\∃vs,o.data=.fields vs/\vs[1]?=a8 tb
abbrev pT(fl:gV):Obj->Prop:=λo=>∃ts,o.data=.fields ts/\ts[3]?=a8 fl
def pE.put{C:h_}{dx:l7 h_}{tb:gV}(h:pE C dx tb o):pE C dx v (o.mapFields (·.setIfInBounds 1 v))/\(o.mapFields (·.setIfInBounds 1 v)).isFreed=false:=by
 let(z,y,V,H,x):=h;let d:=zw H (·.setIfInBounds 1 v);show(⟨(Obj.cls_mapFields _ _).trans z,?_,_,d,?_⟩,VA d)
 ·let(c,O,a,s):=o;subst H;show y
 ·have:=(VM.mp x).1;simp[this]
def pT.put{fl:gV}(h:pT fl o):pT v (o.mapFields (·.setIfInBounds 3 v))/\(o.mapFields (·.setIfInBounds 3 v)).isFreed=false:=by let(s,(H),z):=h;let d:=zw H (·.setIfInBounds 3 v);have:=(VM.mp z).1;show((A0 d<|by simp[this]),VA d)
def getD_none{α:Type}{o:Array (l7 α)}{x:α}(h:(ζj<|a8 x).isNone=true):o[j]?=a8 a9:=by
 by_cases q:j<o.size
 ·let e:ζj (a8 x)=o[j]:=by simp[Array.getD,q]
  rw[e]at h;rw[xh q,Option.isNone_iff_eq_none.mp h]
 ·let e:ζj (a8 x)=a8 x:=by simp[Array.getD,q]
  rw[e]at h;cases h
def sub_tuple_tuple:isSubtype (.type "tuple") (.type "tuple")=pure true:=isSubtype_tuple_tuple
open PySem.W
abbrev T8(i j:Int):Prop:=Builtin.Int.intBits i<=2097152/\Builtin.Int.intBits j<=1000
noncomputable instance(i j:Int):Decidable (T8 i j):=WX _
@[reducible]def bmV:YX 0:=[.type "ValueError",.type "Exception",.type "BaseException",.type "object"]
abbrev pN(C:h_)(tb:gV):Obj->Prop:=λo=>o.cls=.ref C/\o.dict=a9/\∃vs,o.data=.fields vs/\vs[1]?=a8 tb/\vs[2]?=a8 .none
def pN.put{C:h_}{tb:gV}(h:pN C tb o):pN C v (o.mapFields (·.setIfInBounds 1 v))/\(o.mapFields (·.setIfInBounds 1 v)).isFreed=false:=by
 let(w,u,V,H,t,s):=h;let((G,z,W,g,y),x):=pE.put ⟨w,u,V,H,t⟩;show(⟨G,z,W,g,y,?_⟩,x);rw[zw H _]at g
 exists g
 rw[Array.getElem?_setIfInBounds_ne<|by decide];show s
structure lT(C:h_)(H H':Hp)(e:h_)(tb:gV):Prop where
 ne:H e=none
 at':H' e=some (xo e (pN C tb))
 tr:tb=.none\/∃T fl,tb=.ref T/\T≠e/\H T=none/\H' T=some (xo T (pT fl))
 same:∀b,H b≠none->H' b=H b
variable{O:k_ Env}{head:gV}
section
variable{σ:St}{e C:h_}{tb:gV}
def lT.nn(F:γf H e tb){b:h_}(h:H b=a9):H0 b=a9:=by
 cases q:H0 b with
 |none=>rfl
 |some o=>rw[<-h,F.same b (by rw[q];show λz=>nomatch z),q]
def BI{E0:Env}{Q:εt 0}(I:u_ s)(r:A.frames=a8 X.stack)(t:X.stack=E0::O)(f:E0.frame=a8 E0.locals)(n:H e=a8 (xo e<|pN C tb))(h:∀k T,c8 (upd (x_ T<|xo T<|pT<|rawInt E0.locals) e<|xo e<|pN C<|.ref T) k->H T=a9->Q () k):
  X9 (do let a <-frameOf E0;let l <-entryPlaceOf E0.locals b;let c <-EntryCells.newEntry head a .none (rawInt E0.locals) .none l;setField (.ref e) 1 c) Q E s:=by
 have L:=I.stack
 rw[t]at L r
 show eg<|wpAny_frameOf_fun r L f λy S=>?_
 have w:=I.slots (by unfold frs;rw[t];exact S)
 show eg<|wpAny_entryPlaceOf λl p=>?_
 show eg<|wt ?_<|p.sizeOk5 _ _ _ _ _
 have u:=w.xoNew (t':=s.toks) (q:=pT<|rawInt E0.locals) (o:={cls:=.type "traceback",dict:=a9,data:=.fields ([head,.ref E0.locals,.none,rawInt E0.locals,.none]++(if l.isEmpty then Vj 6 yf else l)).toArray}) (A0 rfl (by first|(simp;done)|(rcases p with rfl|⟨_,_,_,_,_,_,_,rfl⟩ <;> simp))) rfl
 have x:x_ y.objs.size (xo y.objs.size<|pT<|rawInt E0.locals) e=a8 (xo e<|pN C tb):=by rw[aG (λz=>by have:=w.fresh;rw[<-z,n]at this;exists this)];exact n
 let(i,(m),v):=u.xo x
 let(g,d,V,Z,j,_):=id v
 show VE m Z (VM.mp j).1 ?_
 exact εB (u.xoPut x m v.put.2 v.put.1) w.fresh
def Kk{E0:Env}{fl:gV}{T:h_}{Q:εt 0}(I:u_ s)(g:A.frames=a8 X.stack)(t:X.stack=E0::O)(F:E0.frame=a8 E0.locals)(u:H e=a8 (xo e<|pN C<|.ref T))(N:T≠e)(q:H T=a8 (xo T<|pT fl))(l:Q () s)(h:∀S w x,c8 w S->w e=a8 (xo e<|pN C<|.ref x)->w x=a8 (xo x<|pT<|rawInt E0.locals)->x≠e->H x=a9->(∀b,b≠e->b≠x->b≠T->w b=H b)->Q () S):
  X9 (noteFrame (.ref e) E0) Q E s:=by
 let(V,(d),c):=I.xo u;let(P,L,R,Z,a,_):=id c;let(W,(Y),r):=I.xo q;let(U,(p),o):=id r;unfold noteFrame;simp only[F];show eg<|VZ d Z a ?_;show eg<|VZ Y p o ?_;by_cases f:(fl == rawInt E0.locals)=true
 ·rw[if_pos f];show vh l
 ·rw[if_neg f];show eg<|VE Y p (VM.mp o).1 ?_;show BI (I.xoPut q Y r.put.2 r.put.1) g t F (by rw[aG<|xy N];show u) λS x m y=>?_;let v:x≠T:=λz=>by rw[z,aL]at y;exists y
  rw[aG v]at y;let n:x≠e:=λz=>by rw[z,u]at y;exists y
  show h S _ x m aL (by rw[aG n,aL]) n y λb k j i=>by rw[aG k,aG j,aG i]
def lT.note{E0:Env}{Q:εt 0}(F:γf H e tb)(I:u_ s)(u:A.frames=a8 X.stack)(t:X.stack=E0::O)(f:E0.frame=a8 E0.locals)(h:∀S y T,c8 y S->γf y e (.ref T)->Q () S):X9 (noteFrame (.ref e) E0) Q E s:=by
 rcases F.tr with rfl|⟨r,L,rfl,j,i,g⟩
 ·let(c,l,k):=I.xo F.at';let(a,Y,V,Z,d,_):=id k;unfold noteFrame;simp only[f];show eg<|VZ l Z d ?_;show BI I u t f F.at' λS T w x=>?_;let n:T≠e:=λz=>by rw[z,F.at']at x;exists x
  show h S _ T w ⟨F.ne,aL,.inr<|I2d T _ rfl n (F.nn x)<|by rw[aG n,aL],λb B=>?_⟩;rw[aG<|λz=>B (by rw[z];show F.ne),aG<|λz=>B (by rw[z];show F.nn x)];show F.same b B
 ·show Kk I u t f F.at' j g (h s H r I F) λS y T w q p o v m=>h S y T w ⟨F.ne,q,.inr<|I2d T _ rfl o (F.nn v) p,λb B=>?_⟩;rw[m b (λz=>B (by rw[z];show F.ne)) (λz=>B (by rw[z];show F.nn v))<|λz=>B (by rw[z];show i)];show F.same b B
def lT.flight{f:l7 h_}{Q:εt 0}{T:h_}(F:γf H e (.ref T))(I:u_ s)
  (h:∀S x,c8 x S->γf x e (.ref T)->Q () S):X9 (setFlight (.ref e) f) Q E s:=by
 rcases F.tr with z|⟨n,l,z,w,v,u⟩
 ·exists z
 ·cases z
  let(m,(q),t):=I.xo F.at';let(j,i,V,Z,o,_):=id t;let(O,(Y),y):=I.xo u;let(k,(r),p):=id y;show eg<|VZ q Z o ?_;show VE Y r (VM.mp p).1<|h _ _ (I.xoPut u Y y.put.2 y.put.1) ⟨F.ne,?_,.inr<|I2d T _ rfl w v aL,λb B=>?_⟩
  ·rw[aG<|xy w];show F.at'
  ·rw[aG<|λz=>B (by rw[z];show v)];show F.same b B
def lT.leave{E0:Env}{Q:εt 0}(F:γf H e tb)(I:u_ s)(r:A.frames=a8 X.stack)(t:X.stack=E0::O)(f:E0.frame=a8 E0.locals)(h:∀S z T,c8 z S->γf z e (.ref T)->Q () S):X9 (leaving E0<|.ref e) Q E s:=by show eg<|F.note I r t f λo p T v y=>y.flight v λq w u x=>h q w T u x
end
abbrev CXN(P:j3)(w:j2):CXT:=λouter H s E x s'=>∃H',s'.os=s.os/\αr 0/\Un (frs outer) [] H H' s.heap s'.heap/\HOk P w H' s'.heap/\E x a9 H'
variable{cd:gV}{outer:k_ Env}{s':g_}
def Qt{f:h_}{E:XK}{σ:St}{C e:h_}{tb:gV}(I:Inv (mL (CXN P w) P w K mg base N qual scope f cd A outer s H E) c6 σ H1 s')(F:γf H1 e tb)(h:∀z T,γf z e (.ref T)->E (.ref e) a9 z):(mL (CXN P w) P w K mg base N qual scope f cd A outer s H E).xe (.ref e) s':=F.leave I I.ok.frames rfl rfl λS z T y x=>I1e z y.os y.bare y.base y.hok<|h z T x
abbrev XcF(K:vj)(C:h_)(i7:YX 0)(newId:String):Prop:=
 ∃bm ns nm qn bs hd sn sub ab col dd k0 k1 k2 k3 k5,K.lookup C=a8 (excClassObj nm qn C ns bs bm hd sn sub ab col dd k0 k1 k2 k3 k5 newId)/\PySem.W.nsOkIn K ns=true/\VS K ns "__init__" = a8 a9/\PySem.W.tailIn K i7 bm=true
structure XCn(K:vj)(C:h_):Prop where
 ex:XcF K C bmV "ValueError.__new__"
 kp:Vi K (.ref C)=true
variable{i7:YX 0}{newId:String}
open H in
def Kl{h:jo}{C:h_}(X:K.In h)(q:XcF K C i7 newId):
  ∃b n m Q B H S s a c d k z y x w,h.get? C=a8 (excClassObj m Q C n B b H S s a c d k z y x w newId)/\(∃N,h.Ns n N/\N "__init__" = a9)/\OwnTail h i7 b:=by
 let(b,n,m,Q,B,H,S,s,a,c,d,k,z,y,x,w,O,o,i,t):=q;show(b,n,m,Q,B,H,S,s,a,c,d,k,z,y,x,w,βg O,⟨_,.of_isNs<|PySem.W.isNs_of_in X o,PySem.W.nsMap_none_of_in X o i⟩,PySem.W.tail_of_in X t)
def bS.is{h:jo}{o:HO}(x:Yj o):∃u,YC 0=a8 u:=by
 cases o with
 |lst X=>let⟨_,_,_,_,e⟩:=x;show(_,e)
 |tup X=>let⟨_,_,_,_,e,_⟩:=x;show(_,e)
 |dK k=>let⟨_,_,_,_,o,_,_,e,_⟩:=x;show(_,e)
 |dT k=>let⟨_,_,_,_,o,_,_,e,_⟩:=x;show(_,e)
 |set S n=>let⟨o,_,_,_,e,_⟩:=x;show(_,e)
 |ins C d s=>let⟨_,_,_,e,_⟩:=x;show(_,e)
 |own y=>let⟨_,e⟩:=x;show(_,e)
 |xd s=>let⟨_,⟨_,_,_,e,_⟩,_⟩:=x;show(_,e)
 |rng l i=>let⟨_,_,_,e⟩:=x;show(_,e)
 |frz b u=>let⟨e,_⟩:=x;show(_,e)
 |tbl p=>exact⟨_,(x)⟩
 |met f y=>exact⟨_,(x)⟩
 |ext z=>let⟨_,⟨_,e⟩,_⟩:=x;show(_,e)
def HOk.off{h:jo}(x:X8 h)(e:YC 0=a9):H a=a9:=by
 cases q:H a with
 |none=>rfl
 |some o=>let⟨u,z⟩:=(x a o q).is;rw[e]at z;exists z
variable{ex:k_ h_}
def Un.laidN{fs:k_ h_}{h:jo}{o:HO}(k:∀b u,Zm 0=a8 u->YI 0=a8 u)(p:YC 0=a9)(N:H a=a9):βG (Zt o) h h' where
 keep:=λb u q _ _ _=>δw q
 slot:=λb u q _ _ _=>⟨u.slots,δw q⟩
 free:=λb u q n _=>by rw[aG (λz=>by rw[z,p]at q;exists q)];show n
 there:=λb u q _=>⟨u,δw q⟩
 tups:=λb x q=>by rw[aG<|bO q N];show q
 frzs:=λb u x q=>by rw[aG<|bO q N];show q
 tbls:=λb s q=>⟨#[],by rw[aG<|bO q N,q];simp⟩
def HOk.laidN{h:jo}{o:HO}(x:X8 h)(k:∀b u,Zm 0=a8 u->YI 0=a8 u)(N:H a=a9)(n:bS P w (Zt o) h' a o):HOk P w (Zt o) h':=λb u e=>by
 by_cases B:b=a
 ·subst B;rw[aL]at e;cases e;show n
 ·rw[aG B]at e;show(x b u e).stay (λc v _ q=>k c v q) (λc q=>by rw[aG<|bO q N];show q) λc s q=>by rw[aG<|bO q N];show q
variable{e₀:j_}
section
variable{σ:St}
def Inv.laidN{o:HO}(I:u_ s)(k:∀b u,tx 0=a8 u->YI 0=a8 u)(p:C_ 0=a9)(h:H a=a9)(n:αe (Zt o) h' a o):
  c8 (Zt o) {s with heap:=h',toks:=t'}:=I.un (Un.laidN k p h)<|I.hok.laidN k h n
abbrev NA(X:Cx)(C:h_)(t:TA):TS:=λD σ H=>t σ H λvs H1=>∃v,vs=[v]/\∀c6 e H2 s',c8 H2 s'->lT C H1 H2 e .none->X.xe (.ref e) s'
def Km{y:Sem gV}{Q:c9 Flow}{C:h_}(c:XCn K C)(p:A.handled=a9)(h:X9 y (λv S=>∃e o,v=.ref e/\K.In S.heap/\S.heap.get? e=a8 o/\pN C .none o/\E (.ref e) S) E s):X9 (raiseStmt env (a8 y) a9) Q E s:=by
 show eg<|zh h (λv S z=>?_) λ_ _ x=>x;let(e,o,(z0),X,t,z1,q):=z;subst z0;let(u,d,G,V,r,_):=z1;let(m,R,N,J,k,D,I,U,n,l,j,i,g,f,Z,Y,w,_,T):=Kl X c.ex;let B:(yg C::m).contains (.type "BaseException")=true:=by rw[List.contains_cons,T.hasType (b:=true)<|by rfl,Bool.or_true]
 let(P,L,a,O):=o;dsimp only at u d V;subst u d V
 repeat (first|with_reducible refine wpAny_loadPart_at t ?_|with_reducible refine wpAny_loadPart_at w ?_|(with_reducible refine wpAny_isSubtype_exc w ?_;rw[B])|with_reducible refine VZ t rfl r ?_|wp_step)
 show wpAny_raiseNew_none p q
def IC{t:TA}{C:h_}{np:Pos}(c:XCn X.K C)(Z:X.calm=true)(U:Zu x)(M:X.mg x=a_ C)(a:PA X [e₀] t)(B:wP ((x == ("__debug__" : Str))=false) xL)(V:wP (wj [e₀] X.env=[(false,eval e₀ X.env)]) zn)(l:wP ((Y6<|wj [] X.env).any (·.1)=false) zn):
  PS X (.Raise (a8<|.Call (.Name x np) [e₀] [] ae) a9 pos) (NA X C t):=by
 intro c6 s σ H D I h;let G:wpAny (c3 X) X.A (eval (.Call (.Name x np) [e₀] [] ae) X.env) (λv S=>∃e O,v=.ref e/\X.K.In S.heap/\S.heap.get? e=a8 O/\pN C .none O/\X.xe (.ref e) S) X.xe s:=by
  show zu<|gF I U M ?_ B;show δC c.kp (thn (a ae c6 s σ H _ I h) λus Q w0=>?_) V l;let(vs,H1,p,r,v,E,q):=w0;show(p.kIn,?_);subst E;cases r with
  | @cons _ u _ us ru r=>
   cases r
   let(hp,g,d,J,os):=Q;let(bm,ns,nm,qn,bs,Y,sn,P,ab,L,dd,k0,k1,k2,k3,k5,i,(mN,R,n),T):=Kl p.kIn c.ex;show wpAny_call_exc_subT (hrest:=(yw<|qF<|by simp)) PySem.F.excBase_ValueError T i R n λh' e m=>?_;let(tt,(j),_,_):=m.there;let N:=p.hok.off m.new;let k:=p.laidN (t':=J) (o:=xo e<|pN C .none) m.keeps m.new N<|Kj ⟨_,j,rfl,rfl,_,rfl,rfl,rfl⟩;show I2e e _ rfl k.kIn j ⟨rfl,rfl,_,rfl,rfl,rfl⟩ (q c6 e _ _ k ⟨N,aL,.inl rfl,λb f=>aG λz=>f (by rw[z];show N)⟩)
 show eg<|wpAny_standAt<|Km c (I.ok.hd Z)<|eg<|zh G (λv S y=>eg<|wpAny_standAt<|vh y) λ_ _ x=>x
end
@[reducible]def Cx.marked(X:Cx)(e:h_)(E:b9 0):Cx:={ X with A:=X.A.mark<|a_ e,calm:=false,xe:=E}
section
variable{σ:St}{e:h_}
def Cx.Ok.marked(o:X.Ok)(e)(E):(X.marked e E).Ok:=⟨o.mod,o.kind,o.glob,o.blt,o.above,o.inj,o.has,o.cab,(λz=>nomatch z),o.frames,o.stk,o.exf,o.bs,o.bsz,o.noex,o.exfs,o.funs,o.frf⟩
def Inv.marked(I:u_ s)(e)(E):Inv (X.marked e E) c6 σ H s:=⟨I.ok.marked e E,I.os,I.bare,I.base,I.loc,I.cell,I.free,I.freeC,I.pin,I.hok,I.len⟩
def Inv.unmark(o:X.Ok)(I:Inv (X.marked e E) c6 σ H s):u_ s:=⟨o,I.os,I.bare,I.base,I.loc,I.cell,I.free,I.freeC,I.pin,I.hok,I.len⟩
def Inv.gone{n:Str}{m:d9 0}{v:l7 gV}(I:u_ s)(Y:X.N.Nodup)(J:X.N[j]?=a8 n)(M:s.heap.Ns X.env.locals m)(L:∀(i:Nat)(x)(v:V),X.N[i]?=a8 x->σ[i]?=a8 (a8 v)->αk x->∃u,Yi u/\Look X.env s.heap m x u)(g:h'.Ns X.env.locals λx=>if x=n then v else m x)(h:VJ X.env.locals s.heap h'):Yq c6 (σ.set j a9) H {s with heap:=h',toks:=t'}:=by
 show(I.ok,I.os,I.bare,⟨λb o e n B t=>?_,λb o e n B t=>?_,I.base.free,λb o e t=>?_,I.base.tups,I.base.frzs,I.base.tbls⟩,(A0 g λi y Q E w Z=>?_),λy c e=>?_,I.free,I.freeC,λp P=>?_,λb U e=>?_,d0 I.len)
 ·show(h.2 b<|wc<|wb (vy e) I.ok.above).trans (αa t)
 ·let(S,E):=αb t;show(S,(h.2 b<|wc<|wb (vy e) I.ok.above).trans E)
 ·let(O,E):=ZV t;show(O,(h.2 b<|wc<|wb (vy e) I.ok.above).trans E)
 ·by_cases r:i=j
  ·subst r;by_cases l:i<σ.l
   ·rw[yi l]at w;cases w
   ·rw[VW (by rw[wo];omega)]at w;exists w
  ·rw[ym<|xy r]at w;let(T,(R),q):=L i y Q E w Z;show I1b T R ?_;rcases q with⟨k,e⟩|⟨k,c,e,z⟩
   ·show .inl ⟨k,?_⟩;have:y≠n:=λe=>r<|xZ Y E<|e▸J;simp[this,e]
   ·show .inr ⟨k,c,e,z.sameBut h<|I.cne y c e⟩
 ·let(W,z):=I.cell y c e;show(W,z.sameBut h<|I.cne y c e)
 ·let((e),n,a,F,d):=βm P;show I0e ((h.2 p.1 a).trans e) n a F d
 ·show(γR U e).stay (λc W C q=>(h.2 c ?_).trans q) (λ_ q=>q) λ_ _ q=>q;rintro rfl;let f:=I.free;rcases C with rfl|C
  ·rw[f]at e;exists e
  ·rw[f]at C;exists C
def NB{n:Str}{Q:εt 0}(I:u_ s)(x:X.N.Nodup)(J:X.N[j]?=a8 n)(L:X.env.scope.names.lookup n=a8 .local)(h:∀S,Yq c6 (σ.set j a9) H S->Q () S):wpAny (c3 X) A (do bindName X.env n .none;unbindBehindTheSuite X.env n pos) Q E s:=by
 let(m,(y),l):=I.loc
 exact wpAny_nameGoes_keeps L y (by rw[I.ok.kind];rfl) λt v z u=>h _<|I.gone x J y l z u
end
structure XM(K:vj)(C Mm:h_):Prop where
 ob:∃dd cd sl,K.lookup Mm=some ⟨.type "type",dd,.cls cd,sl⟩
 top:W0 K (.ref Mm) (.type "BaseException")=some true
 sub:W0 K (.ref C) (.ref Mm)=some true
variable{oe:Obj}
def NC{C Mm e:h_}{Q:c9 Bool}(X:δe 0)(m:XM K C Mm)(z:s.heap.get? e=a8 oe)(c:oe.cls=.ref C)(h:Q true s):
  X9 (excMatches (.ref e)<|.ref Mm) Q E s:=by
 let(D,d,S,(o)):=m.ob;let H:=βg o;let l:βj (isSubtype _ _) false:=.of_pure tc_notTuple;let L:βj (typeOf<|.ref e) (.ref C):=c▸(PySem.W.Looks.ld z).andThen .now;let y:PySem.W.Looks M _ (typeOf<|.ref Mm) _:=(PySem.W.Looks.ld H).andThen .now;let x:βj (isExcClass<|.ref Mm) true:=by show(((PySem.W.Looks.ld H).andThen .now).andThen<|PySem.W.looks_subIn X m.top)
 show eg<|eg<|y.here<|l.here ?_;show eg<|vh ?_;show eg<|eg<|eg<|x.here ?_;show vh<|vh<|eg<|L.here<|eg<|eg<|eg<|(PySem.W.looks_subIn X m.sub).here ?_;show vh<|vh<|vh h
structure XCg(K:vj)(C:h_):Prop where
 ob:∃nm q N bs M sn sub ab col dd k0 k1 k2 k3 k5,K.lookup C=some (excClassObj nm q C N bs (.ref M::bmV) true sn sub ab col dd k0 k1 k2 k3 k5 "ValueError.__new__")/\PySem.W.tailIn K bmV (.ref M::bmV)=true
 ga:yh K (.ref C) "__getattribute__" = some (some (.builtin "BaseException.__getattribute__"))
 gt:yh K (.ref C) "__getattr__" = some none
def XCg.cls{C:h_}(c:XCg K C):∃M d,PySem.W.clsIn K C=a8 d/\d.mro=.ref C::.ref M::bmV/\d.hasDict=true:=by let(n,q,N,b,M,S,s,a,o,D,k,z,y,x,w,h,t):=c.ob;show I2c M _ (by unfold PySem.W.clsIn;rw[h]) rfl rfl
variable{oa:Obj}{od:l7 Obj}{expr:Bool}
section
variable{h:jo}{g:εh 0}{d:Drawn}{t:Nat}{os:OsState}{C:h_}
def UT(X:K.In h)(c:XCg K C)(J:Xt h a oa C od)(q:Y4 (Builtin.«object.__getattribute__» ⟨[.ref a,.str name tk],[]⟩) (λi s=>match i with|.done f=>R (.ok f) s|.again c'=>c'.quiet=true/\codeAny (L_ w) A c' R s) (λe s=>R (.error e) s) ⟨h,g,d,t,os⟩):
  codeAny (L_ w) A (.call (.builtin "BaseException.__getattribute__") ⟨[.ref a,.str name tk],[]⟩) R ⟨h,g,d,t,os⟩:=by
 let(M,D,(H),m,_):=c.cls;let u:PySem.W.Looks (L_ w) h (isInstance _<|.type "BaseException") true:=J.type.andThen (PySem.W.looks_mroIn X (by unfold PySem.W.mroIn;rw[H,Option.bind_some,m];rfl));show codeAny_call_builtin (by decide +kernel) PySem.F.entry_bexc_ga (@PySem.W.check_slot _ _ _ ⟨h,g,d,t,os⟩ "BaseException.__getattribute__" "BaseException" "__getattribute__" (.ref a) [.str name tk] [] _ (by decide +kernel) (by decide +kernel) u (PySem.F.args_bexc_ga _ _) q)
def Qu{Q:c9 Fin}(X:K.In h)(J:Xt h a oa C od)(f:PySem.W.findObj K C od name=a8 (.bind (.builtin "getset_descriptor.__get__")<|.builtin "object.__class__"))(m:PySem.W.mroIn K C (.type "object")=a8 true)(q:Q (.done<|.ret<|.ref C) ⟨h,g,d,t,os⟩):
  l_ (Builtin.«object.__getattribute__» ⟨[.ref a,.str name tk],[]⟩) Q E ⟨h,g,d,t,os⟩:=by
 show eg<|vh<|eg<|vh<|eg<|(J.type).at<|eg<|(PySem.W.looks_find X J f).at ?_;show eg<|yq<|wpAny_call<|PySem.W.class_get X J m<|vh q
def UU{fill:Bool}(X:K.In h)(c:XCg K C)(J:Xt h a oa C od)(v:handedOut u=pure u)(l:∀(A:i_)(R:c9 Result),R (.ok<|.ret u) ⟨h,g,d,t,os⟩->codeAny (L_ w) A (.call (.builtin "BaseException.__getattribute__") ⟨[.ref a,.str name tk],[]⟩) R ⟨h,g,d,t,os⟩)(q:Q u ⟨h,g,d,t,os⟩):
  l_ (getAttrBy (.ref a) (.str name tk) fill expr) Q E ⟨h,g,d,t,os⟩:=by
 let L:=PySem.W.looks_findIn (M:=L_ w) X c.gt;let f:=PySem.F.attr_ValueError.ga.bind<|.ref a;let x:(expr&&onTheHeap (Value.builtin "BaseException.__getattribute__"))=false:=by cases expr <;> rfl
 show yq<|eg<|(J.type (M:=L_ w)).at<|eg<|(PySem.W.looks_findIn (M:=L_ w) X c.ga).at ?_
 repeat (any_goals (first|assumption|with_reducible refine PySem.W.Looks.at (by assumption) ?_|wp_step))
 show l _ _ ?_
 repeat (any_goals (first|assumption|wp_step))
end
variable{ox:Obj}
section
variable{o:j_}{f cx:Str}{p:Pos}{C fI:h_}{cv:V}{cu:gV}
structure XI(K:vj)(C:h_):Prop where
 ha:yh K (.ref C) "__class__" = some (some (.builtin "object.__class__"))
 hn:PySem.W.specialIn K (.builtin "object.__class__") "__get__" = some (some (.builtin "getset_descriptor.__get__"))
 htk:PySem.W.takesIn K (.builtin "object.__class__")=some true
def Qv{x:h_}(c:XCg K C)(i:XI K C):PySem.W.KitX K (.ref x) (.ref C) (λh=>Xt h x ox C od) where
 ty:=λ_ _ _ I=>I.type
 it:=λ_ _ X _=>by let(U,q,N,B,M,P,u,a,l,d,j,g,Z,Y,V,H,T):=c.ob;show λO J L G k q=>eg<|wpAny_loadPart (q7<|X _ _ H)<|vh q
 ne:=λh o d S n p X t=>by let(U,q,N,B,M,P,u,a,l,d,j,g,Z,Y,V,H,T):=c.ob;show Bool.eq_false_iff.mpr λq=>?_;let e:=Value.ref.inj<|beq_iff_eq.mp q;subst e;let z:=congrArg Obj.cls<|wu<|(βg H).symm.trans t;injection z with z;show YJ (by decide)
 ca:=λ{r w A E Q s} X I k=>by
  let(M,D,(y),m,_):=c.cls;let F:PySem.W.findObj K C od "__class__" = a8 (.bind (.builtin "getset_descriptor.__get__")<|.builtin "object.__class__"):=by unfold PySem.W.findObj;rw[y,i.ha];simp[i.hn,i.htk]
  show eg (wpAny_mkText<|eg<|VI<|UU X c I rfl (λA R v=>UT X c I<|Qu X I F (by unfold PySem.W.mroIn;rw[y,Option.bind_some,m];rfl) v)<|vh k)
def Fun.okX{f:h_}{k:Nat}(F:αL fd)(S:ε7 (aM st))(l:∀v H Q E,sp v H Q E->v.l=ps.l)(h:∀(c)(A)(o)(s)(H)(v)(Q)(E),eD k (A.deeper (envOfC qual (aM st) (b7 s) f c))->sp v H Q E->
   ∃t,PSs (mL CX P w K mg base N qual (aM st) f c A o s H E) (bV st) t/\t { nx:=λ_ z=>Q .non z,rt:=Q} (start N v) H):XW CX (k+1) f fd ps sp:=by
 let(y,u,V,D,m,a,c,C,O,(z0),L,d):=F.ex;subst z0;show Od L d S l λA o s H v Q E r p=>h c A o s H v Q E r p
end
@[reducible]def MC.wx(C:MC)(e:k_ h_->Hp->PX->Prop):MC:={ C with ex:=e}
mutual
theorem RV.ofK(hK:C.K=C'.K):∀{x:PV}{v:V},ia x v->RV C' φ H x v
 |.non,_,h=>h
 |.bl _,_,h=>h
 |.int _,_,h=>h
 |.str _,_,h=>h
 |.ty _,_,h=>h
 |.tup _,_,⟨a,vs,e,q,r⟩=>⟨a,vs,e,by rw[<-hK];show q,RVs.ofK hK r⟩
 |.ref _,_,h=>h
 |.fl _,_,⟨a,vs,e,q,r⟩=>⟨a,vs,e,by rw[<-hK];show q,RVs.ofK hK r⟩
theorem RVs.ofK(hK:C.K=C'.K):∀{xs:E_ 0}{vs:k_ V},Yx 0->RVs C' φ H xs vs
 |[],[],_=>trivial
 |_::_,_::_,⟨h,t⟩=>⟨RV.ofK hK h,RVs.ofK hK t⟩
 |[],_::_,h=>h.elim
 |_::_,[],h=>h.elim
end
variable{C':MC}
def RO.ofK(y:C.K=C'.K)(v:C.cl=C'.cl)(W:C.w=C'.w):∀{o:MO},γb o->RO C' φ H a o
 |.lst _,⟨s,h,r⟩=>I1b s h (r.ofK y)
 |.dK _,⟨k,h,r⟩=>I1b k h (αE 0 λ_ _ z=>⟨z.1,z.2.ofK y⟩)
 |.ins _ _,⟨c,d,k,x,h,r⟩=>I3c c d k (by rw[<-v];show x) h (αE 0 λ_ _ z=>⟨z.1,z.2.ofK y⟩)
 |.dD _,⟨k,h,r⟩=>I1b k (by rw[<-W];show h) (αE 0 λ_ _ z=>⟨z.1,z.2.1,z.2.2.1.ofK y,z.2.2.2.ofK y⟩)
 |.vw _ _,h=>h
 |.fz (.dK _),⟨b,k,h,r⟩=>I2b b k h (αE 0 λ_ _ z=>⟨z.1,z.2.ofK y⟩)
 |.fz (.dD _),⟨b,k,h,r⟩=>I2b b k (by rw[<-W];show h) (αE 0 λ_ _ z=>⟨z.1,z.2.1,z.2.2.1.ofK y,z.2.2.2.ofK y⟩)
 |.fz (.lst _),h=>h
 |.fz (.ins _ _),h=>h
 |.fz (.vw _ _),h=>h
 |.fz (.fz _),h=>h
def RH.ofK(v:C.K=C'.K)(c:C.cl=C'.cl)(W:C.w=C'.w)(x:p7 h):RH C' φ H h:=⟨x.len,x.nd,λn a o z y=>(x.at' n a o z y).ofK v c W⟩
variable{e':k_ h_->Hp->PX->Prop}
def RV.wx{e:k_ h_->Hp->PX->Prop}{x:PV}{v:V}(h:RV (C.wx e) φ H x v):RV (C.wx e') φ H x v:=RV.ofK (C:=C.wx e) (C':=C.wx e') rfl h
def RVs.wx{e:k_ h_->Hp->PX->Prop}{x:E_ 0}{v:k_ V}(h:RVs (C.wx e) φ H x v):RVs (C.wx e') φ H x v:=RVs.ofK (C:=C.wx e) (C':=C.wx e') rfl h
def RH.wx{e:k_ h_->Hp->PX->Prop}(x:RH (C.wx e) φ H h):RH (C.wx e') φ H h:=RH.ofK (C:=C.wx e) (C':=C.wx e') rfl rfl rfl x
abbrev Xk(X:Cx)(c:h_)(H:Hp):Prop:=∀c6 σ e H2 tb s',c8 H2 s'->lT c H H2 e tb->X.xe (.ref e) s'
section
variable{k:Nat}{X0:Cx}{p np:Pos}
abbrev Af(c:Str)(ms:Ma):Ms:=λδ h=>match Yh h with
 |.ok [_] h1=>.exc ⟨c,[]⟩ h1
 |_=>.bad
end
section
variable{cx:Str}{p:Pos}{C:h_}{cv:V}{cu:gV}
abbrev T9(C:h_)(cv:V)(b:Bool)(te:TE):TE:=λσ H Q=>te σ H λx H1=>∃y,[x,cv]=[y,cv]/\∃e tb,y=.ref e/\H1 e=a8 (xo e<|pN C tb)/\Q (.bl b) H1
def Fz(xc:XCg X.K C)(xi:XI X.K C)(J:V_ e₀ te)(hc:V_ (.Name cx p2) (tC cv))(z:∀u,RelV cv u->u=cu)(hk:Vo X.K (.ref C) cu=a8 b)(hm:X.mg "isinstance" = a9)(hg:wP (Zu "isinstance" ) zn)
  (s:wP (wj [e₀,.Name cx p2] X.env=(false,eval e₀ X.env)::wj [.Name cx p2] X.env) zn) (q:wP (wj [.Name cx p2] X.env=(false,eval (.Name cx p2) X.env)::wj [] X.env) zn) (Q:wP ((H_<|wj [.Name cx p2] X.env).any (·.1)=false) zn):
  V_ (.Call (.Name "isinstance" p) [e₀,.Name cx p2] [] pos) (T9 C cv b te):=by
 let r:δA (.builtin "isinstance") (λI H Q=>∃y,I=[y,cv]/\∃e tb,y=.ref e/\H e=a8 (xo e<|pN C tb)/\Q (.bl b) H):=by rintro c6 s σ H I us Q I r ⟨y,rfl,e,tb,rfl,J,q⟩;let(u,u2,(z0),ru,rv):=vals2 r;subst z0;obtain rfl:=z _ rv;obtain rfl:u=yg e:=ru;let(oe,q1,z1,z2,vs,z3,z4,_):=I.xo J;let J:Xt _ e oe C a9:=⟨q1,z1,by unfold PySem.W.notCls;rw[z3],by rw[z2];trivial⟩;show zc (Qv xc xi) I.kIn J hk (λz=>nomatch z) λtk=>I2c (.bl b) H (I.tok tk) rfl q
 show yK r hg hm PyProof.Rows.Boot.«isinstance» (mJ J (mJ hc uU q) s) (by decide) (by decide) s Q
end
def lT.ext{C e:h_}{tb:gV}(F:lT C H H' e tb):wX H H':=λa o h=>by rw[F.same a (by rw[h];show λz=>nomatch z)];show h
section
variable{k:Nat}{g:Str}{gp:Pos}{f:Fn}
def Cxt.wish(c:A1 X)(E):A1 (X.wish E):=⟨c.K,c.calm,c.room,c.bn,c.w⟩
variable{cls:Str}{cA:h_}{xp mp yp ap qr np hp tp:Pos}{kk:Nat}{ev:Str}{jn:Nat}{da:k_ ko}{b₀:ko}
end
def Qw(H:(yg a == yg ca)=false)(h1:PySem.W.isClsIn K ca=true)(h2:δg (.ref ca)=a8 (.type "type"))(z:W0 K (.ref a) (.ref ca)=γL 0):Vo K (.ref a) (.ref ca)=γL 0:=by unfold Vo;rw[H];unfold PySem.W.kitCls;let h:(PySem.W.clsIn K ca).isSome=true:=h1;simp only[h,h2];show z
def Qx(h:W0 K (.ref a) (.type "ValueError")=a8 true):Vo K (.ref a) (.type "ValueError")=a8 true:=by show h
def RE.gone{σ:St}(h:F_ 0)(j):γA (δ.set j a9) (σ.set j a9):=by
 show(by rw[wo,wo];show h.1,λi p e=>?_);by_cases c:j=i
 ·subst c;by_cases l:j<δ.l
  ·rw[yi l]at e;cases e
  ·rw[VW (by rw[wo];omega)]at e;exists e
 ·rw[ym c]at e;rw[ym c];show h.2 i p e
def Kn{σ:St}{a b:l7 V}(n:i≠j):((σ.set j a).set i b).set j a9=(ε1 b).set j a9:=by rw[List.set_comm _ _ n,List.set_set,List.set_comm _ _<|xy n]
abbrev uB(cn:Str)(n:Nat)(f:Fn)(ms:Ma)(i j:Nat)(v:PV):Ms:=λδ h=>match Yh h with
 |.ok xs h1=>if xs.l=n then(match f (.ref h1.l::xs) (h1++[.ins cn []]) with
  |.exc _ h2=>.nx ((βN<|a8 v).set j a9) h2
  |_=>.bad) else .bad
 |_=>.bad
abbrev exY(cA:h_)(X:Cx):k_ h_->Hp->PX->Prop:=λ_ H _=>Xk X cA H
abbrev spY(C:MC)(cA:h_)(n:Nat)(f:Fn):Sp:=λvs H Q E=>spM (C.wx λ_ H1 _=>∀e H2 T,lT cA H1 H2 e (.ref T)->E (.ref e) a9 H2) n f vs H Q E
variable{c0:Str}{ur:k_ ko}
section
variable{k:Nat}{cA:h_}
def Qy{f:h_}{body:Ms}(b:∀x∈C.bs,mg x=a9)(F:Fun C.K x qual st f fd)(S:ε7 (aM st))(hb:∀(c)(A)(o)(s)(H)(E),SSs (C.wx<|exY cA<|mL (CXN P C.w) P C.w C.K mg base N qual (aM st) f c A o s H E) k (mL (CXN P C.w) P C.w C.K mg base N qual (aM st) f c A o s H E) (bV st) body):
  cX P C.w C.K mg base (CXN P C.w) (k+1) f fd ps (spY C cA ps.l<|mFn N.l body):=by
 show F.okX S (λW H Q E h=>?_)<|λc A o s H W Q E Z h=>?_
 ·let(m,h,X,(j),R,l,_):=h;rw[<-R.length];show l
 ·let(m,h,X,(j),R,l,p):=h;let r:RH (C.wx<|exY cA<|mL (CXN P C.w) P C.w C.K mg base N qual (aM st) f c A o s H E) m H h:=j.wx;show(_,hb c A o s H E ⟨rfl,rfl,Z,b,rfl⟩,m,X.map a8++Vj _ a9,h,r,RE.start R.wx N,?_);unfold mFn at p;cases e:body (X.map a8++Vj _ a9) h with
  |nx g n=>rw[e]at p;show λy U u t q r Y=>p y .non u t q r.wx rfl
  |rt z n=>rw[e]at p;show λy v u t q r V=>p y v u t q r.wx V.wx
  |exc z n=>rw[e]at p;show λy u t q r i L e O B M I F=>Qt I F λa T d=>p y u t q r.wx e a T d
  |bk g n=>rw[e]at p;show p.elim
  |ct g n=>rw[e]at p;show p.elim
  |bad=>rw[e]at p;show p.elim
variable{p np:Pos}
def Ko(Z:XCn C.K cA)(m:X.mg x=a_ cA)(a:SA (C.wx<|exY cA X) k X [e] ms)(G:wP (Zu x) zn)(d:wP ((x == ("__debug__" : Str))=false) xL)(o:wP (wj [e] X.env=[(false,A5 0)]) zn)(l:wP ((Y6<|wj [] X.env).any (·.1)=false) zn):
  SSt (C.wx<|exY cA X) k X (.Raise (a8<|.Call (.Name x np) [e] [] ae) a9 pos) (Af c0 ms):=λc=>by
 show(IC (by rw[c.K];show Z) c.calm G m (a c) d o l).imp λD Y H h=>?_;let(W,u,h,(f),j,q):=h;show I3c W u h f j ?_;unfold Af at q;cases r:ms u h with
 |bad=>rw[r]at q;show q.elim
 |exc z g=>rw[r]at q;show q.elim
 |ok S g=>
  rw[r]at q
  match S,q with
  |[y],q=>intro w U t P T R V;let(v,(n),_):=RVs.one V;show(v,n,λi e s b I F=>q w t P T R i Y e s _ b I F)
  |[],q=>exact q.elim
  |_::_::_,q=>exact q.elim
def Qz:αn ur bN:=λc=>by intro i s y H D I h;let(w,z,h,(R),r,p):=h;show p.elim
variable{fI:h_}{f:Fn}{v:PV}
def uB.ec{jn:Nat}{D:Ends}(p:Y9 (εH jn v δ h) D):∃s w z u,Yh h=.ok s w/\s.l=n/\f (.ref w.l::s) (w++[.ins cn []])=.exc z u/\Y9 (.nx ((βN<|a8 v).set jn a9) u) D:=by
 unfold uB at p;cases m:Yh h with
 |exc x w=>rw[m]at p;show p.elim
 |bad=>rw[m]at p;show p.elim
 |ok s w=>
  rw[m]at p;dsimp only at p;by_cases l:s.l=n
  ·rw[if_pos l]at p;cases E:f (.ref _::s) _ with
   |bad=>rw[E]at p;show p.elim
   |ok y u=>rw[E]at p;show p.elim
   |exc z u=>rw[E]at p;show I4d s w z u rfl l E p
  ·rw[if_neg l]at p;show p.elim
variable{jn:Nat}{ev hc:Str}{Mm:h_}{xp mp ap hp tp:Pos}{da:k_ ko}{b₀:ko}{vv:V}
def QA(nd:X.N.Nodup)(gw:C.cl cn=a8 ca)(M:Mk C.K ca fI)(G:cX X.prog X.w C.K X.mg X.base (CXN X.prog X.w) j fI fd ps (spY C cA (n+1) f))(bd:ZR [])(hm:X.mg x=a_ ca)(ha:∀E,SA C k (X.wish E) (e::es) ms)(xm:XM C.K cA Mm)(uw:X.mg hc=a_ Mm)(mm:∀t H,RV C t H v vv)
  (hS:∀a E,∃tS,PSs (X.marked a E) (b₀::da) tS/\∀Z H tb D,Z.l=X.N.l->Z[jn]?=a8 (a_ a)->H a=a8 (xo a<|pN cA tb)->(∀l,wX H l->D.nx (Z.set i<|a8 vv) l)->tS D Z H)
  (J:wP (X.N[jn]?=a8 ev) zn) (ow:wP (i≠jn) xL) (U:wP (X.env.scope.names.lookup ev=a8 .local) zn) (tu:wP (X.stack=X.env::X.outer) zn) (hf:wP (X.env.frame=a8 X.env.locals) zn) (hj:wP (j+1<=k) xL) (hg:wP (Zu x) zn) (vf:wP (Zu hc) zn) (sk:wP ((x == ("__debug__" : Str))=false) xL) (um:wP ((hc == ("__debug__" : Str))=false) xL)
  (he:wP (wj (e::es) X.env=(false,A5 0)::X2 0) zn) (je:wP ((Y6<|wj es X.env).any (·.1)=false) zn)
  (hs:wP (Xs (.Call (.Name x xp) (e::es) [] ae) a9 ap.line X.env=αQ 0) zn):
  XZ (.Try [.Expr (.Call (.Name x xp) (e::es) [] ae) ap] [.ExceptHandler (a8<|.Name hc mp) (a8 ev) (b₀::da) hp] [] [] tp) (εH jn v):=λc P s Z H D0 I hh=>by
 let(t,δ,h,(rh),re,p):=hh;let K1:=c.K;let(xs,h1,z,h2,(em),hl,ef,p):=uB.ec p;let M':Mk X.K ca fI:=by rw[K1];show M
 let G':z_ (CXN X.prog X.w) j fI fd ps (spY C cA (n+1) f):=by rw[K1];show G
 let qu:Y3 []:=by rw[K1];show bd
 -- the L
 let L:∀(Q1 u:b9 0),(∀y g m a T s',t<+:y->XT g->YG y g h2->lT cA g m a (.ref T)->Yq P Z m s'->u (.ref a) s')->wpAny (c3 X) X.A (eval (.Call (.Name x xp) (e::es) [] ae) X.env) Q1 u s:=λQ1 u ex=>by
  show zu<|gF I hg hm ?_ sk;show W8 (h₀:=X.base) I.ok.mod.kin M'.kp (thn (ha u (c.wish u) ae P s Z H (λh m=>∃y,t<+:y/\XT m/\YG y m h1/\βU y m xs h) (I.wish u) ⟨t,δ,h,rh,re,by rw[em];show λB h l p t r q=>(I1d B p t r q)⟩) λO S ⟨h,m,d,r,y,p1,t1,R,rv1⟩=>⟨d.kIn,?_⟩) he je;let d:=d.unwish;let kA:Kp m (Y1<|.own<|S.heap.objs.size+1):=Kp.new<|d.hok.fresh<|vk _;let hy:(Y1<|.own<|S.heap.objs.size+1) (S.heap.objs.size+1)=a9:=by rw[aG<|Io<|VY _];show d.hok.fresh<|XH _
  let kB:Kp (Y1<|.own<|S.heap.objs.size+1) (upd (Y1<|.own<|S.heap.objs.size+1) (S.heap.objs.size+1)<|.ins ca S.heap.objs.size []):=Kp.new hy;let i3:YG (y++[S.heap.objs.size+1]) _ (h1++[.ins cn []]):=(R.aside<|d.hok.fresh<|vk _).new hy<|I3c ca S.heap.objs.size [] gw aL .nil;let hq:spY C cA (n+1) f (.ref (S.heap.objs.size+1)::h) (upd (Y1<|.own<|S.heap.objs.size+1) (S.heap.objs.size+1)<|.ins ca S.heap.objs.size []) (λ_ _=>False) (λv _ H2=>∃a g T Y,v=.ref a/\lT cA g H2 a (.ref T)/\t<+:Y/\XT g/\YG Y g h2):=by let q2:βU (y++[S.heap.objs.size+1]) _ (.ref h1.l::xs) (.ref (S.heap.objs.size+1)::h):=⟨⟨S.heap.objs.size+1,rfl,by rw[<-R.len];simp⟩,rv1.mono (ζn _)<|kA.trans kB⟩;show I3d _ _ (.ref h1.l::xs) (RH.wx (e:=C.ex) i3) (RVs.wx (e:=C.ex) q2) (by simp[hl]) ?_;rw[ef];show λB l p' t' r' a H2 T F=>I4e a l T B rfl F (p1.trans<|(ζn _).trans p') (t1.trans<|(kA.trans kB).trans t')<|RH.wx (e':=C.ex) r'
  let D:=Inv.made (C:=ca) d;let r2:aO (V.ref (S.heap.objs.size+1)::h) (yg (S.heap.objs.size+1)::O):=.cons rfl r;let gg:((yg (S.heap.objs.size+1)::O)++[]).length=ps.l:=by let e:=r2.l;rw[G'.len _ _ _ _ hq]at e;rw[Vh];show e.symm
  let s:=qu _ (yg (S.heap.objs.size+1)::O) D.kIn gg;rw[Vh]at s;show wpAny_call (CU (f:=fI) d.kIn M'.makes M'.init (beq_iff_eq.mp M'.fn) (XA (G'.run _ X.stack _ _ ⟨yg (S.heap.objs.size+1)::O,[]⟩ (yg (S.heap.objs.size+1)::O) _ _ _ ((c.room.mono hj).make ca O [])
   (D.env0.make ca O []) s r2 hq) λr s' Q=>?_))
  cases r with
  |error x=>let⟨l,os,L,un,hok,a,g,T,Y,rfl,F,z1,z2,z3⟩:=Q;show ex Y g l a T s' z1 z2 z3 F (D.call' (ch:=[]) os un hok L<|λb z=>YJ (by simp))
  |ok fl=>
   cases fl with
   |ret u=>show E2c (D.after Q) λv l o rv z=>?_;show z.elim
   |next=>exact zb Q
   |brk=>exact zb Q
   |cont=>exact zb Q
 show wpAny_Try_except<|wpAny_execs_cons<|wpAny_Expr_any (L _ _ λy g m a T S p1 t1 R F d=>?_) I.quiet hs;show F.note d d.ok.frames tu hf λs2 H2 T2 D F2=>F2.flight D λs3 H3 o F3=>?_;let(oe,(y1),y2):=o.xo F3.at';show wpAny_handleBy_cons (codeAny_handlers_test<|gF (X:=X.marked a λ_ _=>True) (o.marked a _) vf uw ?_ um) (by intro q;exists q);show NC o.kIn (by rw[K1];show xm) y1 y2.1 ?_;show codeAny_handlers_suite_as<|F3.flight o λs4 H4 I4 F4=>yA I4 nd J (.inl U) (v:=.ref a) rfl (λs5 I5=>?_)<|.inr U;let u4:jn<Z.l:=by rw[I4.len];show(vg.mp J).1
 let(tS,hP,hT):=hS a _;show zh (hP P s5 _ H4 { nx:=λE l=>E=(Z.set jn<|a_ a).set i (a8 vv)/\wX H4 l,rt:=λ_ _=>False} (I5.marked a _)<|hT _ H4 _ _ I5.len (by rw[yi u4]) F4.at' λl q=>⟨rfl,q⟩) (λfl s6 q=>?_) λ_ _ z=>z;cases fl with
 |next=>show E2c q λE H5 I7 z0 sm=>?_;subst z0;let o5:wX g H5:=λb o q=>sm b o (F4.ext b o q);let t4:=t1.trans<|Kp.same o5;show NB (I7.unmark I.ok) nd J U λs7 I8=>I2b _ _ I8 ?_;rw[Kn ow];show p y _ H5 p1 t4 (R.same o5)<|((re.mono p1 t4).set (mm _ _) i).gone jn
 |brk=>let⟨_,_,_,z⟩:=q;show z.elim
 |cont=>let⟨_,_,_,z⟩:=q;show z.elim
 |ret u=>let⟨_,_,_,_,_,z⟩:=q;show z.elim
end
open PySem.MeetsSeq PySem.SeqAt
section
variable{k:Nat}{σ:St}
abbrev lkU(h:PH):PV->PV->Bool
 |.ref n,.ref m=>match Ym n,Ym m with
  |some xs,a8 ys=>decide (xs=ys)&&xs.all (PV.pl 30)
  |_,_=>false
 |x,y=>decide (x=y)&&x.pl 30
@[reducible]def QB(h:PH):E_ 0->E_ 0->Bool:=cY<|lkU h
abbrev ID(h:PH)(n m:Nat):β9 0:=match Ym n,Ym m with
 |some xs,a8 ys=>if xs=ys/\xs.all (PV.pl 30)=true then a8 true else if xs.l=ys.l then a9 else a8 false
 |_,_=>a9
abbrev eqM:PV->PV->PH->β9 0:=λx y h=>match x,y with
 |.non,.str _=>γL 0
 |.non,.tup _=>γL 0
 |.ref n,.ref m=>ID h n m
 |x,y=>if x.ky 6=true/\y.ky 6=true then a8 (decide (x=y)) else a9
abbrev neM:PV->PV->PH->β9 0:=λx y h=>match x,y with
 |.non,.str _=>a8 true
 |.str a,.str b=>a8 (!decide (a=b))
 |.int a,.int b=>a8 (!decide (a=b))
 |.ref n,.ref m=>(ID h n m).map not
 |.tup xs,.tup ys=>if QB h xs ys=true then a8 false else a9
 |_,_=>a9
abbrev bU:PV->PV->PH->Yv 0:=λx y h=>ofB (eqM x y h) h
abbrev hZ:PV->PV->PH->Yv 0:=λx y h=>ofB (neM x y h) h
open H in
def Kr(t:X.K=C.K)(I:u_ s)(d:p7 h)(k:A.units+40<cLine){m:Nat}{x y:V}(e:ID h n m=a8 b)(D:ia (.ref n) x)(B:ia (.ref m) y)(J:P2 u)(F:X_ v):
  RcAt A s u v b/\RcNeAt A s u v (!b)/\∃a c,u=.ref a/\v=.ref c:=by
 unfold ID at e;split at e
 ·rename_i S U E Q;let(a,vs,(z1),M,r):=gM d D<|E;subst z1;let(c,ws,(z0),L,w):=gM d B<|Q;subst z0;subst J;subst F;let(T,(Y),p,_):=I.list<|t▸M;let(i,(W),P,_):=I.list<|t▸L;by_cases z:S=U/\S.all (PV.pl 30)=true
  ·rw[β6 0]at e
   exists e
   let(rfl,q):=z;let(l,g):=DF (R:=λu v=>γ2 0) (λq=>GA t I 30 (by change A.units+1+30<cLine;omega) q) q r w Y W;let G:=λj O N=>by simpa using g j (d0 O) (d0 N)
   let o:=RcAt.lists p.isList P.isList (by simp[l]) ⋯ G;let f:=RcNeAt.lists p.isList P.isList (by simp[l]) ⋯ G;rw[all_true]at o f;show(o,f,a,c,rfl,rfl)
  ·rw[γN 0]at e;split at e
   ·exists e
   ·exists e
    let l1:=r.length.trans Y.l;let l2:=w.length.trans W.l;let Z:(T.toArray.size != i.toArray.size)=true:=by simp;omega
    show(RcAt.lists_lengths p.isList P.isList Z ⋯,RcNeAt.lists_lengths p.isList P.isList Z ⋯,a,c,rfl,rfl)
 ·exists e
open H in
def T'(w:X.K=C.K)(I:u_ s)(n:p7 h)(U:A.units+40<cLine){q:PV}{x y:V}(e:lkU h p q=true)(t:YW x)(Y:ia q y)(r:P2 u)(R:X_ v):βK u v true:=by
 unfold lkU at e;split at e
 ·split at e
  ·rename_i S m E o;rw[wy,decide_eq_true_iff]at e;let(g,_,a,c,rfl,rfl):=Kr w I n U (by unfold ID;rw[E,o];show αU 0) t Y r R;by_cases z:a=c
   ·rw[z];show ζx 0
   ·show EqAt.of_refs z g
  ·exists e
 ·rw[wy,decide_eq_true_iff]at e;let(rfl,P):=e;show GA w I 30 ⋯ P t Y r R
open H in
def Ta:M_ (za .Eq) bU:=λc N s d H x y v u Q I n Y h=>by
 let(Z,h,p,q,(m),R,o,P):=h;let r:=c.K;let U:=c.hu64;let(b,(e),P):=P.ofB;let f:RcAt X.A s v u b->wpAny (c3 X) X.A _ (EP X N d Q) X.xe s:=λg=>g _ X.w X.xe _<|I2c (.bl b) H I rfl<|P.val m rfl;show f ?_;unfold eqM at e;split at e
 ·cases e
  cases R;subst o;let(t,rfl):=Y;subst n;show RcAt.none_str _ _
 ·cases e
  cases R
  let(a,V,(z0),j,_):=o;subst z0;subst n;subst Y;let(i,(_),l,_):=I.tuple<|r▸j;show RcAt.none_tuple l ⋯
 ·show(Kr r I m ⋯ e R o n Y).1
 ·split at e
  ·rename_i z
   exists e
   show F7 6 z.1 z.2 ⋯ (zM I r 6 z.1 R n) (zM I r 6 z.2 o Y)
  ·exists e
open H in
def Tc:M_ (za .NotEq) hZ:=λc i s D H x y v u Q I n Y h=>by
 let(φ,h,p,q,(d),r,o,P):=h;let m:=c.K;let hu:=c.hu64;let(b,(e),P):=P.ofB;let f:RcNeAt X.A s v u b->wpAny (c3 X) X.A _ (EP X i D Q) X.xe s:=λg=>g X.prog X.w X.xe _<|I2c (.bl b) H I rfl<|P.val d rfl;show f ?_;unfold neM at e;split at e
 ·cases e
  subst r;subst o;let(t,rfl):=Y;subst n;show RcNeAt.none_str _ _
 ·rename_i a B;cases e
  subst r;subst o;let(t,rfl):=n;let(T,rfl):=Y;have:=RcNeAt.str_str (A:=X.A) (s:=s) a t B T
  rwa[show(a == B)=decide (a=B) by simp[VX]]at this
 ·rename_i a B;cases e
  subst r;subst o;let(t,rfl):=n;let(T,rfl):=Y;have:=RcNeAt.int_int (A:=X.A) (s:=s) a t B T
  rwa[show(a == B)=decide (a=B) by simp[VX]]at this
 ·let(B,E,rfl):=w8.mp e;show(Kr m I d ⋯ E r o n Y).2.1
 ·rename_i xs ys;split at e
  ·rename_i z
   exists e
   let(a,vs,(z1),N,L):=r;subst z1;let(b,ws,(z0),M,J):=o;subst z0;subst n;subst Y;let(V,(G),U,_):=I.tuple<|m▸N;let(S,(F),O,_):=I.tuple<|m▸M;let(l,g):=lO (R:=λu v=>εG u v true) (λe=>T' m I d (by change X.A.units+1+40<cLine;omega) e) z L J G F;have:=RcNeAt.tuples (A:=X.A) U O ⋯ (λj Z W=>by simpa using g j (d0 Z) (d0 W))
   rw[all_true]at this;simpa[l] using this
  ·exists e
 ·exists e
abbrev inU(x y:PV)(h:PH):β9 0:=match Ie y h with
 |some ys=>if x.ky 6=true/\ys.all (PV.ky 6)=true then a8 (decide (x∈ys)) else a9
 |none=>(match y with|.ref n=>B4 h n x|_=>a9).map Option.isSome
abbrev Ag(x y:PV)(h:PH):β9 0:=match qS x y h with
 |some o=>a8 o.isSome
 |none=>inU x y h
abbrev aW:PV->PV->PH->Yv 0:=λx y h=>ofB ((Ag x y h).map not) h
open Classical in
def Ks(hK:X.K=C.K)(I:u_ s){A:i_}(hu:A.units+7<cLine){p:PV}{x:V}{u:gV}(kp:p.ky 6=true)(rx:YW x)(r1:P2 u):∀{ys:E_ 0}{vs:k_ V}{us:YX 0},ys.all (PV.ky 6)=true->p5 ys vs->β3 0->
  ∃f:gV->Bool,(∀y∈us,βK y u<|f y)/\us.any f=decide (p∈ys):=by
 intro ys vs us hk rv va;let one:∀{ys:E_ 0}{vs:k_ V}{us:YX 0},ys.all (PV.ky 6)=true->p5 ys vs->β3 0->(∀z∈us,∃q∈ys,q.ky 6=true/\XX q z)/\∀q∈ys,∃z∈us,XX q z:=by
  intro ys
  induction ys with
  |nil=>intro vs us _ rv va;cases vs with|nil=>cases va;show⟨λ_ h=>(nomatch h),λ_ h=>(nomatch h)⟩|cons _ _=>exact rv.elim
  |cons q ys ih=>
   intro vs us hk rv va;cases vs with
   |nil=>exact rv.elim
   |cons v vs=>
    cases va with
    |cons a1 a2=>
     rw[WY,wy]at hk;let g:=zM I hK 6 hk.1 rv.1 a1;let(i1,i2):=ih hk.2 rv.2 a2;show(λz hz=>?_,λz hz=>?_)
     ·rcases v8.mp hz with rfl|hz
      ·show(q,vo,hk.1,g)
      ·let(w,hw,e):=i1 z hz;show(w,εs hw,e)
     ·rcases v8.mp hz with rfl|hz
      ·show(_,vo,g)
      ·let(w,hw,e):=i2 z hz;show(w,εs hw,e)
 let(i1,i2):=one hk rv va;let gp:=zM I hK 6 kp rx r1;show(λz=>decide (XX p z),λz hz=>?_,?_)
 ·let(q,_,kq,g):=i1 z hz;let rc:=F7 6 (A:=A) kq kp ⋯ g gp;let e:decide (q=p)=decide (XX p z):=by rw[decide_eq_decide];show(λe=>e▸g,λe=>HR.one g e)
  rw[e]at rc;show rK rc (λev=>decide_eq_true<|ev▸gp) λf t=>g.noflt f t
 ·rw[XF,List.any_eq_true,decide_eq_true_iff];show(λ⟨z,hz,e⟩=>?_,λhp=>?_)
  ·let(q,hq,_,g):=i1 z hz;rw[HR.one (of_decide_eq_true e) g];show hq
  ·let(z,hz,g):=i2 p hp;show(z,hz,decide_eq_true g)
open H in
def GF{q:PV}{x y:V}(c:A1 X)(I:u_ s)(d:p7 h)(r:YW x)(R:ia q y)(T:P2 u)(S:X_ v)(e:Ag p q h=a8 b):
  (Dw C x y H λ_ o=>o.isSome=b)\/(∃a o,y=.ref a/\εO x o/\o.isSome=b)\/∃(a:h_)(U:YX 0)(f:gV->Bool),v=.ref a/\(s.heap.IsList a U.toArray\/s.heap.IsTuple a U.toArray)/\(∀z,z∈U.toArray->εG z u (f z))/\U.toArray.any f=b:=by
 let J:=c.hu64;unfold Ag at e;cases w:qS p q h with
 |some o=>
  rw[w]at e
  exists e
  show .inl<|zN d r R w rfl
 |none=>
  rw[w]at e;dsimp only at e;unfold inU at e;cases E:Ie q h with
  |none=>
   rw[E]at e;let(o,W,rfl):=w8.mp e;cases q with
   |ref n=>let⟨a,rfl,O⟩:=R;let(N,(g),i,_):=rP d O r W;show .inr<|.inl<|I2c a N rfl g i.symm
   |_=>exists W
  |some L=>
   rw[E]at e;dsimp only at e;split at e
   ·rename_i z
    exists e
    show .inr<|.inr ?_;unfold Ie at E;split at E
    ·exists E
     let(a,M,(z0),Q,j):=R;subst z0;subst S;let(t,(Y),P,_):=I.tuple<|c.K▸Q;let(f,m,l):=Ks c.K I (A:=X.A.in1) (by change X.A.units+1+7<cLine;omega) z.1 r T z.2 j Y;show I3d a t f rfl (.inr P) (λz Z=>m z<|d0 Z)<|d0 l
    ·let(a,M,rfl,Q,j):=gM d R<|E;subst S;let(t,Y,P,_):=I.list<|c.K▸Q;let(f,m,l):=Ks c.K I (A:=X.A.in1) (by change X.A.units+1+7<cLine;omega) z.1 r T z.2 j Y;show I3d a t f rfl (.inl P.isList) (λz Z=>m z<|d0 Z)<|d0 l
    ·exists E
   ·exists e
def ND(c:A1 X):O_ (za .In) (λx y H Q=>∃J h p q,YG J H h/\RV C J H p x/\RV C J H q y/\ZG J H (ofB (Ag p q h) h) Q):=λL s G H x y v u Q I R Y h=>by
 let(J,h,p,q,(r),i,d,P):=h;let(b,(e),P):=P.ofB;rcases GF c I r i d R Y e with z|⟨a,o,rfl,g,rfl⟩|⟨a,M,f,rfl,z,t,rfl⟩
 ·show N4 c L s G H x y v u Q I R Y ?_;let(w,l,j,n,a,K,(Z),W,V,U,T,S,O):=z;show δY (by dsimp only;rw[O];show αI rfl)
 ·subst Y;show Uq c.hu I g R λN m=>I2c (.bl _) H m rfl<|P.val r rfl
 ·rcases z with z|z
  ·show SeqAt.in_listAt f z t ⟨.bl _,H,I,rfl,αI rfl⟩
  ·show SeqAt.in_tupleAt f z t ⟨.bl _,H,I,rfl,αI rfl⟩
def IE:M_ (za .NotIn) aW:=λc L s J H x y v u Q I R Y h=>by
 let(G,h,p,q,(r),i,d,P):=h;let(B,(E),P):=P.ofB;let(b,e,rfl):=w8.mp E;rcases GF c I r i d R Y e with z|⟨a,o,rfl,g,rfl⟩|⟨a,M,f,rfl,z,t,rfl⟩
 ·show Fg c L s J H x y v u Q I R Y ?_;let(w,l,j,n,a,K,(Z),W,V,U,T,S,O):=z;show δY (by dsimp only;rw[O];show αI rfl)
 ·subst Y;show Mr c.hu I g R λN m=>I2c (.bl _) H m rfl<|P.val r rfl
 ·rcases z with z|z
  ·show SeqAt.notIn_listAt f z t ⟨.bl _,H,I,rfl,αI rfl⟩
  ·show SeqAt.notIn_tupleAt f z t ⟨.bl _,H,I,rfl,αI rfl⟩
@[simp]theorem Td{i j:Int}:bU (.int i) (.int j) h=.ok (.bl<|decide (i=j)) h:=by simp[bU,eqM,PV.ky,ofB]
@[simp]theorem Te{i j:Str}:bU (.str i) (.str j) h=.ok (.bl<|decide (i=j)) h:=by simp[bU,eqM,PV.ky,ofB]
@[simp]theorem Tf{j:Str}:bU .non (.str j) h=.ok (.bl false) h:=rfl
@[simp]theorem IF:bU .non (.tup xs) h=.ok (.bl false) h:=rfl
def DQ(x:xs.all (PV.ky 5)=true)(y:ys.all (PV.ky 5)=true):bU (.tup xs) (.tup ys) h=.ok (.bl<|decide (xs=ys)) h:=by simp[bU,eqM,PV.ky,x,y]
@[simp]theorem Tg{i j:Int}:hZ (.int i) (.int j) h=.ok (.bl<|!decide (i=j)) h:=rfl
@[simp]theorem Th{i j:Str}:hZ (.str i) (.str j) h=.ok (.bl<|!decide (i=j)) h:=rfl
@[simp]theorem Ti{j:Str}:hZ .non (.str j) h=.ok (.bl true) h:=rfl
def DR{m:Nat}(e:h[n]?=a8 (.lst xs))(E:h[m]?=a8 (.lst [])):hZ (.ref n) (.ref m) h=.ok (.bl<|!xs.isEmpty) h:=by cases xs <;> simp[hZ,neM,ID,aJ,e,E]
def QC(e:xs.all (PV.pl 30)=true):QB h xs xs=true:=by
 induction xs with
 |nil=>rfl
 |cons x xs i=>
  rw[WY,wy]at e
  change(lkU h x x&&QB h xs xs)=true
  rw[i e.2,Bool.and_true];let E:=e.1;have:∀p:PV,(decide (p=p)&&p.pl 30)=p.pl 30:=λp=>by rw[decide_eq_true rfl,Bool.true_and]
  cases x with
  |ref n=>cases E
  |_=>exact(this _).trans E
def Kt(e:xs.all (PV.pl 30)=true):hZ (.tup xs) (.tup xs) h=.ok (.bl false) h:=by simp[hZ,neM,QC e]
end
open PySem
def Ku(e:Zr n=εR 0)(k:(α2 0).ky 6=true):Ag (.tup xs) (.ref n) h=a8 (Zf<|.tup xs).isSome:=by
 let K:(α2 0).isKt=true:=k;have:qS (.tup xs) (.ref n) h=a8 (Zf<|.tup xs):=by simp[qS,K,e]
 unfold Ag;rw[this]
def Ah(e:Zr n=εR 0)(k:(α2 0).ky 6=true):aW (.tup xs) (.ref n) h=.ok (.bl<|!(Zf<|.tup xs).isSome) h:=by simp only[aW,Ku e k,ofB,Option.map_some]
def DT{ys:S2 0}:Ag (.str x) (.tup<|ys.map PV.str) h=a8 (decide (x∈ys)):=by
 let H:(ys.map PV.str).all (PV.ky 6)=true:=we.mpr λy Y=>by let(z,_,rfl):=v7.mp Y;rfl
 simp only[Ag,qS,inU,Ie,H];simp[PV.ky]
def Cs{ys:S2 0}:aW (.str x) (.tup<|ys.map PV.str) h=.ok (.bl<|!decide (x∈ys)) h:=by simp[aW,DT]
def uC{x:PV}(e:h[n]?=a8 (.lst ys))(X:x.ky 6=true)(y:ys.all (PV.ky 6)=true):aW x (.ref n) h=.ok (.bl<|!decide (x∈ys)) h:=by
 let H:qS x (.ref n) h=a9:=by
  have:Zr n=a9:=by simp[aV,e]
  simp[qS,this]
 simp[aW,Ag,H,inU,Ie,aJ,e,X,y,ofB]
abbrev cI:PV->PV->PH->Yv 0:=λx y h=>ofB (Ag x y h) h
def QD{k:Nat}:M_ (za .In) cI:=λc=>ND c
def GG(e:Zr n=εR 0)(k:(α2 0).ky 6=true):cI (.tup xs) (.ref n) h=.ok (.bl (Zf<|.tup xs).isSome) h:=by simp[cI,Ku e k,ofB]
def Kv{kvs:k_ (Key×PV)}(e:h[n]?=a8 (.dK kvs)):cI (.str x) (.ref n) h=.ok (.bl (Zf<|.inr x).isSome) h:=by simp[cI,Ag,PV.isKt,inU,Ie,aJ,B4,e,xF]
def vG{ys:S2 0}:cI (.str x) (.tup<|ys.map PV.str) h=.ok (.bl<|decide (x∈ys)) h:=by simp[cI,DT,ofB]
open PySem.SeqAt PySem.W
open Classical in
abbrev BJ(b:Bool)(ks ys:E_ 0):l7 (E_ 0):=if ks.l<64/\ks.l=ys.l/\(∃m,m<2/\ζw ks)/\(∀a∈ks.zip ys,∀c∈ks.zip ys,a.1=c.1->a.2=c.2) then a8 ((βd<|eZ Prod.fst<|ks.zip ys).map (·.2)) else a9
abbrev gX(f:Fn)(b:Bool)(ys:E_ 0):E_ 0->E_ 0->PH->Yv 0
 |[],ks,h=>match BJ b ks ys with
  |some zs=>.ok (.ref h.l) (h++[.lst zs])
  |none=>.bad
 |x::xs,ks,h=>(f [x] h).bind λk h1=>gX f b ys xs (ks++[k]) h1
abbrev jA(f:Fn)(b:Bool)(x:PV)(h:PH):Yv 0:=match(fQ x h).or (JX x h) with
 |some ys=>if ys.l<64 then gX f b ys ys [] h else .bad
 |none=>.bad
abbrev jB(f:Fn)(b:Bool)(me:Me):Me:=λδ h=>(me δ h).bind λx h1=>jA f b x h1
abbrev Kw(C:MC)(X:Cx)(c6:b_ 0)(σ:St)(φ:k_ h_)(H:Hp)(f:Fn)(b:Bool)(ys:E_ 0)(Q:VK)(a z:h_)(kS:h_)(e1:Nat)(ks:YX 0)(e:Nat)(s':g_):Prop:=z<kS/\∃H' φ' h' zs ps,Yq (c6++[(kS,seqObj "list" ks.toArray e),(a,seqObj "list" #[] e1)]) σ H' s'/\φ<+:φ'/\XT H'/\N_ h'/\aO zs ks/\εY ps zs/\ZG φ' H' (gX f b ys (ys.drop ks.l) ps h') Q
variable{its:YX 0}
def IG{k:Nat}{q:h_}{f:Fn}{σ:St}{us:k_ V}{Q:VK}(c:A1 X)(D:Z8 x st q fd pn)(G:γ5 (βV 1 f))(hj:j+2<=k)(u:p5 ys us)(g:aO us its)(eA:A'=X.A.in1.in1)(fr:∀S,a<=S->X.s₀.heap.objs.size<=S/\S≠X.env.locals/\(∀x c,A2 0=a8 c->c≠S)/\(∀p∈X.pn++c6,p.1≠S)/\S∉X.fs)(S)(e1)(ks)(e)(s')(y)(J:its[ks.length]?=a8 y)(hJ:αu a a S e1 ks e s'):
  wpAny (c3 X) A' (call (.ref q) [y]) (λv s=>s.heap.get? S=a8 (seqObj "list" ks.toArray e)/\∀(o) E,VJ S s.heap o->o.get? S=a8 (seqObj "list" (ks++[v]).toArray E)->αu a a S e1 (ks++[v]) E {s with heap:=o}) (λ_ _=>False) s':=by
 subst eA;let(Z,H',φ',o,zs,ps,I,pp,tt,rh,rz,rp,B):=hJ;let gm:=(vg.mp J).1;let j8:=g.l;let ka:=u.l;let i:ks.l<ys.l:=by simp_all
 let L:=zf i;let(u,(hu),ru):=u.at L;let(y',(Y),U):=g.get hu;rw[J]at Y
 exists Y
 rw[drop_cons L]at B;show K0 c D G ((c.room.mono hj).in1.in1) I I.env0.in1.in1 U rh (ru.mono pp tt) B λv D x2 M T p2 h2 r W P t R d O=>?_;let m:=r.pin _<|v5 _<|v5 _ vo;let ga:=r.pin _<|v5 _<|v5 _<|vr _ vo;show(m.1,λg E sb l=>?_);let F:=fr S<|yw Z;let N:=wc Z;let I3:Yq _ σ M D:=r.pins_of λp h=>(xj.mp h).elim (λz=>r.pin p<|v5 _<|y6 _ z) λz=>by rw[vx.mp z];show ga
 let n:=I3.turned (t':=D.toks) (λb' o' hb hq=>(sb.2 b' hb).trans hq) m.2.1 F.2.1 (.inr F.1) F.2.2.1 (λp h=>by
  rcases xj.mp h with h|h
  ·show F.2.2.2.1 p (y6 _ h)
  ·rcases xj.mp h with h|h
   ·show F.2.2.2.1 p (v5 _ h)
   ·rw[vx.mp h];show N)
 show(Z,M,T,h2,zs++[x2],ps++[p2],n.pins_of λp h=>?_,pp.trans P,tt.trans t,R,rz.append<|.cons W .nil,(rp.mono P t).snoc d,?_)
 ·rcases xj.mp h with h|h
  ·show n.pin p (v5 _<|y6 _ h)
  ·rcases v8.mp h with rfl|h
   ·show I0e l m.2.1 F.2.1 F.2.2.2.2 oP
   ·rw[vx.mp h];show n.pin _<|v5 _<|v5 _ vo
 ·rw[ye];show O
variable{kw:k_ (Str×gV)}
open H in
def Ai{k:Nat}{q:h_}{f:Fn}(c:A1 X)(D:Z8 x st q fd pn)(G:γ5 (βV 1 f))(hj:j+2<=k)(jj:∀v,argsOk "sorted" ⟨[v],kw⟩)(U:∀v,argsOk "list.sort" ⟨[.ref v],kw⟩)(ht:∀v,Builtin.«list.sort» ⟨[.ref v],kw⟩=ksk_tree v (.ref q) b){σ:St}{Q:VK}{v:V}(I:u_ s)(ru:Yi u)(h:r1 C (jA f b) v H Q):
  wpAny (c3 X) X.A (call (.builtin "sorted") [u] kw) (X3 Q) X.xe s:=by
 let(φ,h,p,rh,rp,po):=h;unfold jA at po;cases E:(fQ p h).or (JX p h) with
 |none=>rw[E]at po;show po.elim
 |some ys=>
 rw[E]at po;let(jg,po):=po.ite;show call_function_entry_kw kind_sorted plain_sorted entry_sorted (jj u) ?_;unfold Builtin.«sorted»;show eg (m:=checkCount "sorted" 1 1 _)<|vh ?_;let col:wpAny (c3 X) X.A.in1 (collect u) (λt z=>∃x,u_ z/\aO x t/\p5 ys x) X.xe s:=by
  let g:∀{a:h_}{vs:k_ V},v=.ref a->γc vs->p5 ys vs->wpAny (c3 X) X.A.in1 (collect u) (λt z=>∃x,u_ z/\aO x t/\p5 ys x) X.xe s:=λ{a vs} Y sa ra=>by
   subst Y;cases ru
   let ub:αK a vs:=by rw[c.K];show sa
   let(t,rv,pl,hz):=I.list ub;show collect_list pl.isList ?_ (by have:=rv.l;have:=ra.l;rw[yt];omega);show⟨vs,I.kept (t':=s.toks) λb o e=>by
    let gm:b<(b7 s):=vy e
    first
     |(rw[δZ<|wc gm,δr<|wc gm];show e)
     |exact X4 e,rv,ra⟩
  cases l:fQ p h with
  |none=>
   rw[l,Option.none_or]at E;unfold JX at E;split at E
   ·rename_i n;split at E
    ·rename_i d hv;split at E
     ·rename_i hd;cases E
      let(a,Y,ha):=rp;subst Y;cases ru
      let(bb,hb,hH):=δV hv;let(ks,ud,rk):=rh.at' d bb _ hb hd;cases rk
      let(_,_,vs,rel,dd):=γs ud;cases rel
      let(ep,D'):=dd.dictAt;show PySem.W.kdx_collect (A:=X.A.in1) (ep:=ep) (Zh 0) (βq hH).1 D' (w6 _) λh' tk as kp hl hG=>?_;cases as with
      |nil=>exact⟨[],I.kept (t':=tk) kp,.nil,trivial⟩
      |cons _ _=>cases hl
     ·cases E
    ·cases E
   ·exists E
  |some p8=>
  rw[l,Option.some_or]at E;cases E
  unfold fQ at l;split at l
  ·rename_i n;split at l
   ·rename_i p8 e;cases l
    let(a,Y,ha):=rp;let(a2,vs,U,sa,ra):=bZ rh e;rw[ha]at U;cases U;show g Y sa ra
   ·unfold eX at l;split at l
    ·rename_i d hv;let(a,Y,ha):=rp;subst Y;subst ru;let(bb,hb,hH):=δV hv;let(hT,hm,hz,oc,S,ep,g1,g2,ws,r1,r2):=zW c I rh hb l;let mm:s.heap.IsValuesView a bb:=(βq hH).1;let hn:S.size<=wa:=by
      let T:=r1.l;let e2:ws.l=S.size:=by have:=r2.l;simpa using this
      rw[<-e2,<-T];show hz
     show PySem.W.kdu_collect (Dg (r:=a) g2) (Zh 0) ⟨mm,g1⟩ hn λh' tk acc hk dh=>?_;show(ws,I.kept (t':=tk) hk,by rw[Dx dh];show r2,r1)
    ·exists l
  ·cases l
   let(a,vs,Y,sa,ra):=rp;show g Y sa.sq ra
  ·exists l
 show eg<|zh col (λt z hh=>?_) λ_ _ z=>z;let(x,I1,rv,ry):=hh;let j8:x.l=t.l:=rv.l;let ka:ys.l=x.l:=ry.l;let uv:=ka.trans j8;show eg (wpAny_newList ?_ (by rw[yt];omega));let oz:(z.heap.push<|seqObj "list" t.toArray 0).get? z.heap.objs.size=a8 (seqObj "list" t.toArray 0):=YU rfl;let keep:∀b o,z.heap.get? b=a8 o->b≠z.heap.objs.size/\(z.heap.push<|seqObj "list" t.toArray 0).get? b=a8 o:=λb o q=>⟨wc<|vy q,X4 q⟩;let fr:∀k,z.heap.objs.size<=k->X.s₀.heap.objs.size<=k/\k≠X.env.locals/\(∀x c,A2 0=a8 c->c≠k)/\(∀p∈X.pn++c6,p.1≠k)/\k∉X.fs:=λk hk=>JZ I1 hk
 change X6 { z with heap:=z.heap.push (seqObj "list" t.toArray 0)}
 show eg<|yq<|wpAny_call_entry_kw slot_list_sort ⟨_,oz,rfl⟩ entry_list_sort ?body<|U _
 case body=>
  change wpAny (c3 X) X.A.in1.in1 (Builtin.«list.sort» ⟨[.ref z.heap.objs.size],kw⟩) _ _ _
  rw[ht z.heap.objs.size];show F5 (s:={ z with heap:=z.heap.push (seqObj "list" t.toArray 0)}) (a:=z.heap.objs.size) (κ:=tuples' true) (vs:=t) oz ⋯ (αu z.heap.objs.size z.heap.objs.size) ?h0 ?f7 ?turn ?fin
  case h0=>
   intro k T h' kp hk g1 g2;let j9:z.heap.objs.size<k:=by have:(z.heap.push<|seqObj "list" t.toArray 0).objs.size<=k:=hk;rw[Wz]at this;show this
   let I2:u_ { z with heap:=h'}:=I1.kept (t':=z.toks) λb o q=>kp b o (keep b o q).1 (keep b o q).2;let fk:=fr k<|yw j9;let fa:=fr z.heap.objs.size<|vk _;show(j9,H,φ,h,[],[],I2.pins_of λp hp=>?_,vt,δO 0,rh,.nil,trivial,po);rcases xj.mp hp with hp|hp
   ·show I2.pin p (v5 _ hp)
   ·rcases v8.mp hp with rfl|hp
    ·show(g2,I1.hok.fresh<|yw j9,fk.2.1,fk.2.2.2.2,oP)
    ·rw[vx.mp hp];show(g1,I1.hok.fresh<|vk _,fa.2.1,fa.2.2.2.2,oP)
  case f7=>rintro k T ks e s' ⟨hz,H',φ',h',zs,D,I',_⟩;show(Io hz,(I'.pin (z.heap.objs.size,seqObj "list" #[] T)<|v5 _<|v5 _<|vr _ vo).1,(I'.pin (k,seqObj "list" ks.toArray e)<|v5 _<|v5 _ vo).1)
  case turn=>intro k T ks e s' y hy hJ;show IG c D G hj ry rv rfl fr k T ks e s' y hy hJ
  case fin=>
   rintro k T ks e s' hl ⟨hz,H',φ',h',zs,D,I',pp,tt,j0,rz,rp',y⟩;let hd:ys.drop ks.l=[]:=List.drop_eq_nil_of_le<|WR<|uv.trans hl.symm;rw[hd]at y;unfold gX at y;cases S:BJ b D ys with
   |none=>rw[S]at y;show y.elim
   |some out=>
   rw[S]at y;unfold BJ at S;split at S
   ·rename_i hc;let(hc1,iy,(m,hm,d),vc):=hc;let em:decide (m≠2)=true:=decide_eq_true (wc hm)
    exists S
    let hpz:D.l=zs.l:=rp'.l;let hzk:zs.l=ks.l:=rz.l;let hu:=c.hu64;let hr:HRs s'.heap D ks:=xM I' c.K 20 d.ky rp' rz;let memD:∀i,i<t.l->D.getD i .non∈D:=λi Z=>by
     let h1:i<D.l:=⋯;have:D.getD i .non=D[i]:=by simp[h1]
     rw[this];show VL h1
    show I1e (λi j=>ltN (D.getD i .non)<|D.getD j .non) (λi j k Z hj hk h1 h2=>Fp h1 h2) (λi j Z hj h=>Fq h) (λh2 Q' E' hq=>?_) (λi j Z hj Q' hq=>?_) λp g e2 a1 a2 kp he gk=>?_
    ·show Gx d.m3 hr d.fk ⋯ (em▸hq)
    ·let mi:=memD i Z;let mj:=memD j hj;let(bb,hb):=zd.mp<|d.lt _ mi _ mj;let hq:Q' (ltN (D.getD i .non)<|D.getD j .non) s':=hq;rw[Fo hb]at hq;let(qs,(eq),_):=Cm d.m3<|d.fk _ mj;let(rq,(eu),nt):=Cm d.m3<|d.fk _ mi;show Dz (n:=19) (by change X.A.units+1+1+19<cLine;omega) (d.ky _ mi) (d.ky _ mj) (I1b rq eu λ_=>nt em) ⟨qs,eq⟩ (hr.getD ⋯) (hr.getD ⋯) hb hq
    ·let ip:∀i∈p,i<t.l:=λi Z=>by simpa using a1.mem_iff.mp Z
     let fa:=fr z.heap.objs.size<|vk _;let fk:=fr k<|yw hz;let oh:=I'.pin (z.heap.objs.size,seqObj "list" #[] T)<|v5 _<|v5 _<|vr _ vo;let I5:εe s':=I'.unpinned;let I6:=I5.adopt (a:=z.heap.objs.size) (d:=k) (o:=.lst<|p.map λi=>x.getD i .non) (h':=g) oh.2.1 (I'.pin (k,seqObj "list" ks.toArray e)<|v5 _<|v5 _ vo).2.1 fa fk (λx o h1 h2 q=>kp x o h1 h2 q) (by show(?_,p.map<|λi=>t.getD i yf,e2,uZ rv (λi Z=>by have:=ip i Z;omega),he);rw[vn,a1.length_eq,WM,yt];omega)
     show A0 rfl<|vh ⟨_,rfl,.ref z.heap.objs.size,_,I6,rfl,?_⟩;show y.lnew j0 ?_ oh.2.1;rw[<-DP (b:=b) iy d vc (p:=p) (by rw[ka,j8];show a1) a2];show(ry.mono pp tt).pick (λi Z=>by have:=ip i Z;omega)
   ·exists S
variable{bp kp:Pos}{kf:Str}
section
variable{q:h_}{jb:Nat}{f:Fn}{p rp cp:Pos}
def BK{Q:VK}{σ:St}(h:rd C (jB f b me) σ H Q):Ob (rd C me) Mb σ H λs y=>∃x,s=[x]/\r1 C (jA f b) x y Q:=by let(o,t,h,(u),e,p):=h;show I3c o t h u e<|(αh 0).imp ?_;show λv y z8=>εj 0 λz x w P T r R q=>?_;show(v,rfl,z,w,x,r,R,q)
def NF{k:Nat}(D:Z8 kf st q fd pn)(G:γ5 (βV 1 f))(E:n_ e me)(hb:("sorted" : Str)∈C.bs)(J:wP (j+2<=k) xL)(y:wP (Zu "sorted" ) zn)(g:wP (Zu kf) zn)(d:wP ((kf == ("__debug__" : Str))=false) xL)(t:wP (wj [e] X.env=(false,A5 0)::wj [] X.env) zn)(b:wP (H_ (wj [e] X.env)=(false,A5 0)::H_ (wj [] X.env)) zn)(l:wP ((H_<|wj [e] X.env).any (·.1)=false) zn):
  n_ (.Call (.Name "sorted" p) [e] [⟨a8 "key",.Name kf kp,bp⟩] pos) (jB f false me):=λc i s n H Q I h=>by
 show zu (oE I y (c.bn _ hb) PyProof.Rows.Boot.«sorted» ?_ (by decide) (by decide));show callWith_kw (thn (mJ (E c) uU t pos i s n H _ I<|BK h) λU S o=>?_) b l;let(a,m,z,V,x,rfl,r):=o;let(u,rfl,R):=vals1 V;show kws_cons<|gF z g D.mg (kws_nil ?_) d
 change n7 (call _ [u] [(v3 "key",.ref q)]) _ _ _
 show Ai c D G J (λv=>ksk_s1 _ _) (λv=>ksk_l1 _ _) (λv=>ksk_t1 _ _) z R r
def Kx{k:Nat}(D:Z8 kf st q fd pn)(G:γ5 (βV 1 f))(E:n_ e me)(hb:("sorted" : Str)∈C.bs)(J:wP (j+2<=k) xL)(y:wP (Zu "sorted" ) zn)(g:wP (Zu kf) zn)(d:wP ((kf == ("__debug__" : Str))=false) xL)(t:wP (wj [e] X.env=(false,A5 0)::wj [] X.env) zn)(B:wP (H_ (wj [e] X.env)=(false,A5 0)::H_ (wj [] X.env)) zn)(l:wP ((H_<|wj [e] X.env).any (·.1)=false) zn):
  n_ (.Call (.Name "sorted" p) [e] [⟨a8 "key",.Name kf kp,bp⟩,⟨a8 "reverse",.Constant (.bool b) jb rp,cp⟩] pos) (jB f b me):=λc i s n H Q I h=>by
 show zu (oE I y (c.bn _ hb) PyProof.Rows.Boot.«sorted» ?_ (by decide) (by decide));show callWith_kw (thn (mJ (E c) uU t pos i s n H _ I<|BK h) λU S o=>?_) B l;let(a,m,z,V,x,rfl,r):=o;let(u,rfl,R):=vals1 V;show kws_cons<|gF z g D.mg (kws_cons<|Constant_bool<|kws_nil ?_) d
 change n7 (call _ [u] [(v3 "key",.ref q),(v3 "reverse",.bool b)]) _ _ _
 show Ai c D G J (λv=>ksk_s2 _ _ _) (λv=>ksk_l2 _ _ _) (λv=>ksk_t2 _ _ _) z R r
end
variable{sh:k_ Bool}
section
variable{α:Type}{key:α->γ7 0}
def Aj:∀{a b:γ7 0},shape a=shape b->ltL (ltP 19) (a.map kP) (b.map kP)=a8 (rN a b)
 |[],[],_=>rfl
 |[],_::_,h=>nomatch h
 |_::_,[],h=>nomatch h
 |x::s,y::Y,h=>by
  unfold shape at h;rw[wq,wq,List.cons.injEq]at h;let I:=Aj h.2;unfold rN;rw[wq,wq,ltL];by_cases e:x=y
  ·rw[αU 0,if_pos<|by rw[e]];show I
  ·rw[Z4 0];cases x with
   |inl i=>
    cases y with
    |inl j=>rw[if_neg<|λz=>e (by cases z;rfl)];rfl
    |inr j=>cases h.1
   |inr i=>
    cases y with
    |inl j=>cases h.1
    |inr j=>rw[if_neg<|λz=>e (by cases z;rfl)];rfl
def DU(h:∀k∈kss,shape k=b::sh):∃m,m<2/\ζw (kss.map tP):=by
 let l:∀(P:PV->Prop),(∀k∈kss,P _)->∀x∈kss.map tP,P x:=λP h x X=>by let(k,H,rfl):=v7.mp X;show h k H
 show I1b (if b=true then 0 else 1) (by split <;> decide) ⟨by split <;> decide,l _ λk _=>?_,l _ λk H=>?_,l _ λa A=>l _ λc C=>?_⟩
 ·change(k.map kP).all _=true
  rw[we];intro x X;let(y,_,rfl):=v7.mp X;cases y <;> rfl
 ·have:=h k H;cases k with
  |nil=>exists this
  |cons x s=>cases x <;> (exists this;rfl)
 ·change(ltL (ltP 19) _ _).isSome=true
  rw[Aj<|(h a A).trans (h c C).symm];rfl
def Ky{a b:γ7 0}(h:shape a=shape b):ltN (tP a) (tP b)=rN a b:=Fo (n:=20)<|Aj h
def GH{f:Fn}{b:Bool}{emb:α->PV}{ys zs:E_ 0}{Q:PV->PH->Prop}:∀(r done:k_ α)(h),(∀d∈r,∀h(Q),(∀H,t_ H->Q (tP<|key d) H)->(f [emb d] h).W Q)->
  BJ b ((done++r).map λd=>tP<|key d) ys=a8 zs->(∀H,t_ H->Q (.ref H.l) (H++[.lst zs]))->(gX f b ys (r.map emb) (done.map λd=>tP<|key d) h).W Q
 |[],done,h,_,s,k=>by rw[Vh]at s;simp[List.map_nil,gX,s,iX];show k h<|Ext.refl h
 |x::r,done,h,F,s,k=>by rw[wq];unfold gX;rw[zG];show F x vo h _ λz X=>?_;rw[show(done.map λd=>tP _)++[tP _]=(done++[x]).map λd=>tP (key d) by simp];show GH r _ z (λd D=>F d (εs D)) (by rw[Vw];show s) λH y=>k H (X.trans y)
def QE{a b:γ7 0}(e:tP a=tP b):a=b:=by
 let h:BB [tP a]=a8 [a]:=zR [a];rw[e,show BB [tP b]=a8 [b] from zR [b]]at h
 cases h
 rfl
def oV{β:Type}{f:α->β}{q:β->PV}(x:α):∀s,rR q (f x) (s.map f)=(rR (λa=>q<|f a) x s).map f
 |[]=>rfl
 |y::s=>by rw[wq];unfold rR;rw[oV x s];split <;> rfl
def lU{β:Type}{f:α->β}{q:β->PV}:∀s,eZ q (s.map f)=(eZ (λa=>q<|f a) s).map f
 |[]=>rfl
 |x::s=>by
  change rR q (f x) (eZ q _)=_
  rw[lU s];show oV x _
def xP{f:Fn}{emb:α->PV}{xs:k_ α}{x:PV}{Q:PV->PH->Prop}{S:k_ Bool}(e:fQ x h=a8 (xs.map emb))(h1:xs.l<64)(u:zS (xs.map key)=true)(v:∀x∈xs,shape (key x)=S)(t:(xs.map key).Nodup)(F:∀d∈xs,∀h(Q),(∀H,t_ H->Q (tP<|key d) H)->(f [emb d] h).W Q)(k:∀(o:k_ α) H,t_ H->o.Perm xs->o.Pairwise (λp q=>(if b then rN (key p) (key q) else rN (key q) (key p))=false)->Q (.ref H.l) (H++[.lst<|o.map emb])):(jA f b x h).W Q:=by
 unfold jA;rw[e,Option.some_or];dsimp only;rw[if_pos<|d0 h1];let(B,n,(s)):=Fj u;let r:∀y∈xs,∀z∈xs,shape _=shape _:=λy Y z Z=>(v y Y).trans (v z Z).symm;let E:(xs.map λd=>tP<|key d).zip _=xs.map λd=>(tP _,emb d):=List.zip_map';let P:=eJ (λd=>tP<|key d) xs;let Z:BJ b (xs.map λd=>tP<|key d) (xs.map emb)=a8 ((βd<|eZ (λd=>tP<|key d) xs).map emb):=by
  show(if_pos ⟨d0 h1,by simp,(w9▸DU s :),λa A c C e=>?_⟩).trans ?_
  ·rw[E,lU];cases b with
   |false=>exact αW<|w9 ..
   |true=>exact αW (by change((List.map _ _).reverse).map _=_;rw[<-List.map_reverse,w9];rfl)
  ·rw[E]at A C;let(y,Y,rfl):=v7.mp A;let(z,Z,rfl):=v7.mp C;show congrArg (λz=>z.2) ((BD (l:=xs.map λd=>(key d,emb d)) (by rw[w9];show t) (v7.mpr ⟨y,Y,rfl⟩) (v7.mpr ⟨z,Z,rfl⟩)<|QE e))
 let w:=(mT (λd=>tP _) xs).imp_of_mem λ{y z} Y Z h=>(Ky<|r z (P.mem_iff.mp Z) y<|P.mem_iff.mp Y).symm.trans h;show GH xs [] h F Z λH X=>k _ H X ?_ ?_
 ·cases b with
  |false=>exact P
  |true=>exact(βi 0).trans P
 ·cases b with
  |false=>exact w
  |true=>exact List.pairwise_reverse.mpr w
end
@[simp]theorem R'{f:Fn}:jB f b m δ h=(Zk h).bind λx h1=>jA f b x h1:=rfl
def DV{f:Fn}{d:Nat}(e:h[n]?=a8 (.vw 0 d))(z:h[d]?=a8 (.dK [])):jA f b (.ref n) h=.ok (.ref h.l) (h++[.lst []]):=by
 let E:fQ (.ref n) h=a9:=by simp[fQ,aJ,eX,e]
 unfold jA;rw[E];let s:BJ b [] []=a8 []:=(if_pos ⟨by decide,rfl,⟨0,by decide,⟨by decide,(λ_ h=>nomatch h),(λ_ h=>nomatch h),λ_ h=>nomatch h⟩⟩,λ_ h=>nomatch h⟩).trans (by cases b <;> rfl);simp[JX,e,z,gX,s]
section
variable{k:Nat}{σ:St}
def Kz{Q:VK}{m:Nat}(c:A1 X)(O:ζw ys)(F:ys.l<64)(r:wpAny (c3 X) X.A.in1 (collect u) (λt W=>∃H d S,u_ W/\aO S t/\βU d H ys S/\∀l v,H l=a9->βU d H (eZ id ys) v->Q (.ref l) (x_ l<|.lst v)) X.xe s):wpAny (c3 X) X.A (call (.builtin "sorted") [u]) (X3 Q) X.xe s:=by
 let hu:X.A.in1.in1.units+19<cLine:=by
  have:=c.hu64
  change X.A.units+1+1+19<cLine
  omega
 let D:∀i,i<ys.l->ys.getD i .non∈ys:=λi I=>by
  have:ys.getD i .non=ys[i]:=by simp[I]
  rw[this];show VL I
 show Bq (κ:=tuples'<|decide (m≠2)) _ r ?_;show λt W z7=>E3d z7 λH d S x V g f=>?_;let l1:=V.l;let l2:=g.l;let L:t.l=ys.l:=⋯;let R:HRs _ ys t:=xM x c.K 20 O.ky g V;show(⋯,λi j=>ltN (ys.getD i .non)<|ys.getD j .non,λi j k _ _ _ N G=>Fp N G,λi j _ _ h=>Fq h,λA' Y p P Z E' z=>Gx O.m3 (R.kept p) O.fk P z,λY p i j I hj Z z=>?_,λq h' e y U p he=>?_)
 ·let M:=D i ⋯;let J:=D j ⋯;let(b,B):=zd.mp<|O.lt _ M _ J;let z:Z (ltN _ _) Y:=z;rw[Fo B]at z;let(qs,(T),_):=Cm O.m3<|O.fk _ J;show Dz hu (O.ky _ M) (O.ky _ J) (Cm O.m3<|O.fk _ M) ⟨qs,T⟩ ((R.kept p).getD ⋯) ((R.kept p).getD ⋯) B z
 ·let n:∀i∈q,i<ys.l:=λi I=>by have:=y.mem_iff.mp I;rw[Wi]at this;omega
  rw[L]at y;show I2c (.ref _) _ (x.laid (o:=.lst _) p (vk _) ⟨?_,q.map<|λi=>t.getD i _,e,uZ V (λi I=>by have:=n i I;omega),he⟩) rfl<|f _ _ x.fresh ?_
  ·rw[vn,y.length_eq,WM,yt];omega
  ·let E:=vD id (λa ha b B e=>O.inj a ha b B e) (Br y) (by rw[yy];show U);rw[<-E];show g.pick' n
abbrev KA(h:PH)(n:Nat):l7 (E_ 0):=match Ym n with
 |some ys=>a8 ys
 |none=>match h[n]? with
  |some (.dK [])=>a8 []
  |some (.vw 0 d)=>match h[d]? with
   |some (.dK [kv])=>a8 [.tup [kP kv.1,kv.2]]
   |_=>a9
  |_=>a9
abbrev cG:E_ 0->PH->Yv 0:=λxs h=>match xs with
 |[.ref n]=>match KA h n with
  |some ys=>if ys.l<64/\okN ys=true then .ok (.ref h.l) (h++[.lst<|eZ id ys]) else .bad
  |none=>.bad
 |_=>.bad
open H in
def BL:Zp (.builtin "sorted") cG:=λc c6 s σ H xs us Q I r h=>by
 let(φ,h,ps,v,rv,s):=h;unfold cG at s;split at s
 ·rename_i n;split at s
  ·rename_i ys Q;let(hc,s):=s.ite;let(m,ok):=Qc hc.2;let(v,rfl,(a,rfl,ha)):=rv.one;let(u,rfl,ru):=εw 0;subst ru;show Kz c ok hc.1 ?_;unfold KA at Q;split at Q
   ·rename_i zs e;cases Q
    let(a2,vs,(u),sa,ra):=bZ v e;rw[ha]at u;exists u;let(its,(rv),pl,hz):=(I.list (by rw[c.K];show sa));show collect_list pl.isList ?_ (by have:=rv.l;have:=ra.l;rw[yt];omega);show⟨H,φ,vs,I.kept λb o e=>by
     let o:=vy e
     first
      |(rw[δZ<|wc o,δr<|wc o];show e)
      |exact X4 e,rv,ra,λl z m hr=>s.lnew v hr m⟩
   ·split at Q
    ·rename_i e
     exists Q
     let et:Zr n=a8 []:=by simp[aV,e]
     let(hm,hz,oc,es,ep,g1,gc,g2,ws,r1,r2):=DH c I v ha et;let hn:es.size<=wa:=by
      let e2:ws.l=es.size:=by have:=r2.l;simpa using this
      rw[<-e2,<-r1.length];show hz
     show PySem.W.kdu_collect (DG gc hm g2) (Zh 0) g1 hn λh' tk acc hk dh=>?_;show I3d H φ ws (I.kept hk) (by rw[A9 dh];show r2) r1 λl z m hr=>s.lnew v hr m
    ·rename_i d hv;split at Q
     ·rename_i kv hk
      exists Q
      let(bb,(hb),hH):=v.at' n a _ ha hv;let(ks,(hD),rk):=v.at' d bb _ hb hk;unfold RKv at rk;cases rk with
      | @cons _ q _ qs h1 t=>
      cases t
      let(z,y,vs,rg,D):=I.hok bb _ hD;cases rg with
      | @cons _ w _ _ h2 t2=>
      cases t2
      let(ep,D'):=D.dictAt;show PySem.W.kdx_collect (Zh 0) (βq hH).1 D' (by simp) λh' tk as kp m hG=>?_
      match as,m with
      |[b],_=>
      let(key,kk,x,(e1),e2,e3):=hG.pairs 0 b rfl
      exists e1
      let ge:=yw<|hG.above b vo;let hn:=I.hok.fresh ge;show(x_ b<|.tup [kV q.1,q.2],φ,[.ref b],I.laid kp ge ⟨by rw[yt];show Nat.le_of_ble_eq_true rfl,[key,x],.cons ?_<|.cons h2.2 .nil,(I1d _ e3 rfl ⟨0,rfl⟩ rfl)⟩,.cons rfl .nil,⟨(I2c b _ rfl (SqT.of aL) ?_),trivial⟩,λl z m hr=>(post.weak vt (Kp.new hn) s).lnew (v.aside hn) hr m)
      ·rw[show q.1=kk from h2.1]
       rcases bR e2 with⟨i,t,rfl,rfl⟩|⟨y,t,rfl,rfl⟩
       ·show(t,rfl)
       ·show(t,rfl)
      ·rw[<-show kv.1=q.1 from h1.1]
       show(by cases kv.1 <;> rfl,h1.2.mono vt<|Kp.new hn,trivial)
     ·exists Q
    ·exists Q
  ·show s.elim
 ·show s.elim
end
def DW{m:Nat}(e:h[n]?=a8 (.lst ys))(l:ys.l<64)(o:ζw ys):cG [.ref n] h=.ok (.ref h.l) (h++[.lst<|eZ id ys]):=by
 let E:Ym n=a8 ys:=by simp[aJ,e]
 simp only[cG,KA,E];rw[if_pos ⟨l,JV o⟩]
def Ct(e:h[n]?=a8 (.dK [])):cG [.ref n] h=.ok (.ref h.l) (h++[.lst []]):=by
 let E:Ym n=a9:=by simp[aJ,e]
 simp only[cG,KA,E,e];rfl
variable{kv:Key×PV}
def Cu{d:Nat}(e:h[n]?=a8 (.vw 0 d))(z:h[d]?=a8 (.dK [kv]))(o:okN [.tup [kP kv.1,kv.2]]=true):cG [.ref n] h=.ok (.ref h.l) (h++[.lst [.tup [kP kv.1,kv.2]]]):=by
 let E:Ym n=a9:=by simp[aJ,e]
 simp only[cG,KA,E,e,z];rw[if_pos ⟨Nat.le_of_ble_eq_true rfl,o⟩];rfl
abbrev UV(K:vj)(l:h_):It:=⟨λ_ _=>False,λ_ _ _ _=>False,λ_ H=>Yu l []⟩
def FA(l e it):βJ (.Tuple elts x1 pos) (UV K l) [e,it] e (λi h=>(∃d,IsEnum h e it (i) d)/\h.IsListIter it l i) where
 mem:=by simp
 obj:=λi h ⟨⟨d,y⟩,⟨O,u,_,D⟩⟩ b B=>by
  simp[v8,Ws,or_false]at B;rcases B with rfl|rfl
  ·show(_,y,λv q=>by cases q)
  ·show(_,u,λv q=>by rw[D]at q;cases q)
 keep:=λi h j ⟨⟨d,y⟩,x⟩ k=>⟨⟨d,k e (by simp) _ y⟩,x.at λo q=>k it (by simp) o q⟩
 item:=λ_ _ _ _ _ _ _ _ _ _ _ _ _ _ z=>z.elim
 done:=by
  intro X c Z g C i n s U H E I a ⟨⟨d,y⟩,x⟩ Q;subst c Z g;let(T,R,p,S):=I.list Q;cases R
  show wpAny_pyNext_enum_end (I.ok.hd C) y x p.isList (by simp) λj Y=>⟨rfl,?_⟩;let(f,F,V,t,r,m):=a it<|vr _<|vx.mpr rfl;show I.turned (λb o B q=>Y b o B q) f F t r m
 self:=λ_ _ _ _ _ ⟨⟨_,y⟩,_⟩ h=>wpAny_pyIter_enum y h
open Classical in
abbrev enZ:E_ 0->PH->Rs Wk:=λps h=>if e:∃n,ps=[.ref n]/\Ym n=a8 [] then .ok ⟨[],tT e.choose []⟩ h else .bad
def QF(e:Ym n=a8 []):enZ [.ref n] h=.ok ⟨[],tT n []⟩ h:=by let E:∃m,[PV.ref n]=[.ref m]/\Ym m=a8 []:=⟨n,rfl,e⟩;show(dif_pos E).trans ?_;rw[<-PV.ref.inj (List.cons.inj E.choose_spec.1).1]
abbrev KB(ms:Ma):Mi:=λδ h=>(Yh h).bind enZ
open H in
def NG{k:Nat}{x:j_}{tp p:Pos}(G:YN [x] ms)(hb:wP (("enumerate" : Str)∈C.bs) xL)(g:wP (Zu "enumerate" ) zn)(D:wP (wj [x] X.env=[(false,eval x X.env)]) zn):
  SI C k X (.Tuple elts x1 tp) (.Call (.Name "enumerate" p) [x] [] pos) (KB ms):=λc=>by
 intro P s σ H R I h;let(φ,δ,h,rh,re,p):=h;show Call_<|oE I g (c.bn _ hb) Iy<|Wn (thn (G c pos P s σ H _ I ⟨φ,δ,h,rh,re,postA.bindI p⟩) λM S w=>?_) D rfl;let(vs,m,o,r1,d,xs,h1,p1,t1,r,V,q):=w;unfold enZ at q;split at q
 ·rename_i z;let T:=z.choose_spec;generalize z.choose=n at q T;clear z;let(rfl,e):=T;let(v,rfl,a,rfl,A):=V.one;let(u,rfl,U):=vals1 r1;cases U
  let(W,M,y,O,ra):=bZ r e;rw[A]at y;cases y;cases M with
  |cons _ _=>exact ra.elim
  |nil=>
  rw[<-c.K]at O;let(its,rv,pl,hz):=o.list O;show call_enumerate_list pl.isList λh' Z W J kp=>?_;show wpAny_pyIter_enum Z <|⟨S.heap.objs.size+1,[S.heap.objs.size+1,S.heap.objs.size],_,_,m,rfl,o.kept kp,FA a _ _,⟨⟨_,Z⟩,W⟩,λb hb=>?_,q d m _ vt (Kp.refl m) r λφ2 H2 Q p2 t2 j g i=>?_⟩
  ·let l:S.heap.objs.size<=b:=by
    simp[v8,Ws,or_false]at hb;rcases hb with e|e
    all_goals rw[e]
    all_goals first|exact vk _|exact W4 _ _
   show o.fpOk l<|o.hok.fresh l
  ·let g:(match aJ Q n with|some L=>PV.beqs L []|none=>false)=true:=g
   show(λF=>absurd F<|Nat.not_lt_zero _,λ_=>?_);cases E:aJ Q n with
   |none=>rw[E]at g;cases g
   |some L=>
    rw[E]at g;let Y:=PV.beqs_eq g;subst Y;let(J,f,t,N,U):=bZ j E;rw[dG p2 A]at t;cases t;cases f with
    |cons _ _=>exact U.elim
    |nil=>rw[<-c.K]at N;show N
 ·show q.elim
end _L
namespace _K
open PySem _L
local macro_rules|`(e_ $x)=>`(mC (.int $x))
noncomputable section
abbrev vH:Ms:=
 (aF (bE (aN (aB vLt (mV 1) (γG (aA (mV 0) aC))))
  (aQ<|aB vAt (mV 0)<|mV 1)
  bP)
 (aQ (e_ 0)))
abbrev lV:Fn:=δ3 vH
abbrev rY:Ms:=
 (aF (aT 3 (βC (Y5 (Y5 (aB B3 (mV 3) (mV 3)) (aB B3 (e_ 48271) (mV 3))) (mV 4)) (e_ 2147483647)))
  (dY (δ4 (onL eW) (mV 2) (aA (mV 3) aC))))
abbrev Al:Ms:=
 (aF (aT 2 (cK aC))
 (aF (aT 3 (Y5 (βC (mV 0) (e_ 2147483647)) (e_ 48271)))
 (aF (gP (tU (aA (Y5 (mV 1) (e_ 1)) aC)) (gN 4) rY)
 (aQ (mSl (mV 2) (mP (e_ 1)) kM)))))
abbrev uD:Fn:=mFn 5 Al
abbrev Cv:Ms:=
 (aF (aT 2 (mC (.str "abcdefghijklmnopqrstuvwxyz")))
 (aF (aT 3 (bD 2 uD (aA (mV 0) (aA (e_ 10) aC))))
 (aF (aT 4 (mMt Nh Ab (mC (.str "")) (aA (bK [a9,a8 2] (bB (mSl (mV 3) kM (mP (e_ 8)))) (gN 0) dU (o_ (mV 1) (βC (mV 0) (e_ 26)))) aC)))
 (aF (bE (aN (Yw (βC (mV 0) (e_ 3)) (e_ 0)))
  (aQ<|bK [a9,a8 4,a8 3] (tU<|aA (mV 1) aC) (gN 0) dU<|mSl (mV 1) kM<|mP<|aB aU (e_ 1)<|aB dS (Y5 (mV 0)<|aB vAt (mV 2)<|e_ 8)<|e_ 8)
  bP)
 (aF (aT 4 (mSl (mV 4) kM (mP (Y5 (e_ 1) (βC (o_ (mV 3) (e_ 8)) (e_ 8))))))
 (aF (aT 5 (βC (o_ (mV 3) (e_ 9)) (γG (aA (mV 4) aC))))
 (aQ (bK [a9,a8 4,a8 2,a8 5,a8 3] (tU (aA (mV 1) aC)) (gN 0) dU (Y5 (Y5 (mSl (mV 1) kM (mP (mV 3))) (o_ (mV 2) (βC (Y5 (aB F9 (o_ (mV 4) (e_ 9)) (e_ 8)) (aB B3 (e_ 5) (mV 0))) (e_ 26)))) (mSl (mV 1) (mP (Y5 (mV 3) (e_ 1))) kM))))))))))
abbrev Cw:Fn:=mFn 6 Cv
abbrev Cy:Ms:=(aQ<|aX<|aA (cK aC)<|aA (cK aC) aC)
abbrev jX:Fn:=mFn 0 Cy
abbrev iA:Ms:=
 (aF (bE (aN (aB aW (mV 1) (mV 2)))
  bN
  bP)
 (aF (bG "hand" (mV 0) (mV 1))
 (aF (bG "hands" (mV 0) (β2 (aA (mV 2) aC)))
 (aF (bG "taken" (mV 0) (aX aC))
 (aF (bG "thrown" (mV 0) (aX aC))
 (aF (bG "kept" (mV 0) dI)
 (aF (bG "early" (mV 0) dI)
 (aF (bG "settles" (mV 0) dI)
 (aF (bG "floor" (mV 0) (e_ 0))
 (aF (bG "ground" (mV 0) (oU jX))
 (bG "folding" (mV 0) (mC .non))))))))))))
abbrev iB:Fn:=εI iA
abbrev KC:Ms:=
 (aF (aT 2 (bD 2 uD (aA (mV 0) (aA (e_ 6) aC))))
 (aF (aT 3 (β2 (aA (mV 1) aC)))
 (aF (aT 4 (o_ (mV 3) (βC (o_ (mV 2) (e_ 1)) (γG (aA (mV 3) aC)))))
 (aF (aT 5 (Y5 (aB xE (βC (mV 0) (aB xE (aB B3 (e_ 2) (aB Fb (e_ 10) (e_ 40))) (e_ 1))) (aB Fb (e_ 10) (e_ 40))) (e_ 1)))
 (aF (aT 6 (rX ["count","choice","bag"] (aA (cK (aA (mC (.str "add")) aC)) (aA (cK (aA (mC (.str "choose")) aC)) (aA (cK (aA (mC (.str "put")) (aA (mC (.str "take")) aC))) aC)))))
 (aF (bE (aN (Yw (βC (o_ (mV 2) (e_ 0)) (e_ 8)) (e_ 7)))
  (aQ<|aX<|aA (mC<|.str "settle") aC)
  bP)
 (aF (bE (qV (aN (aB vGt (βC (o_ (mV 2) (e_ 0)) (e_ 8)) (e_ 3))) (aN (aB cI (o_ (mV 1) (mV 4)) (mV 6))))
  (aQ<|aX<|aA (o_ (o_ (mV 6)<|aB vAt (mV 1)<|mV 4)<|aB dS (o_ (mV 2)<|e_ 2)<|mCB lM<|aA (o_ (mV 6)<|aB vAt (mV 1)<|mV 4) aC)<|aA (mV 4)<|aA (mV 5) aC)
  bP)
 (aF (bE (qV (aN (Yw (βC (o_ (mV 2) (e_ 0)) (e_ 8)) (e_ 4))) (aN (aB vGt (γG (aA (mV 3) aC)) (e_ 1))))
  (aQ<|aX<|aA (mC<|.str "drop")<|aA (o_ (mV 3)<|aB aU (e_ 1)<|aB dS (o_ (mV 2)<|e_ 1)<|aB xE (γG<|aA (mV 3) aC)<|e_ 1) aC)
  bP)
 (aF (bE (qV (aN (Yw (βC (o_ (mV 2) (e_ 0)) (e_ 8)) (e_ 5))) (aN (aB vGt (γG (aA (mV 3) aC)) (e_ 1))))
  (aQ<|aX<|aA (mC<|.str "move")<|aA (o_ (mV 3)<|aB aU (e_ 1)<|aB dS (o_ (mV 2)<|e_ 1)<|aB xE (γG<|aA (mV 3) aC)<|e_ 1)<|aA (aX<|aA (mC<|.str "")<|aA (e_ 0) aC)<|aA (o_ (cK<|aA (mC<|.str "a")<|aA (mC<|.str "b") aC)<|aB dS (o_ (mV 2)<|e_ 2)<|e_ 2) aC)
  bP)
 (aF (aT 7 (o_ (cK (aA (mC (.str "map")) (aA (mC (.str "row")) (aA (mC (.str "count")) (aA (mC (.str "choice")) (aA (mC (.str "bag")) (aA (mC (.str "text")) aC))))))) (βC (o_ (mV 2) (e_ 3)) (e_ 6))))
 (aF (bE (aN (Yw (o_ (mV 1) (mV 4)) (mC (.str "row"))))
  (aQ<|aX<|aA (mC<|.str "make")<|aA (mV 7)<|aA (mV 4)<|aA (aX<|aA (aX aC)<|aA (e_ 1) aC) aC)
  bP)
 (aF (bE (aN (Yw (o_ (mV 1) (mV 4)) (mC (.str "map"))))
  (aQ<|aX<|aA (mC<|.str "make")<|aA (mV 7)<|aA (mV 4)<|aA (o_ (cK<|aA (mC<|.str "a")<|aA (mC<|.str "key")<|aA (mC<|.str "twelvesigns") aC)<|aB dS (o_ (mV 2)<|e_ 4)<|e_ 3) aC)
  bP)
 (aQ (aX (aA (mC (.str "make")) (aA (mV 7) (aA (aX (aA (mC (.str "")) (aA (e_ 0) aC))) (aA (mC (.str "b")) aC))))))))))))))))))
abbrev KD:Fn:=mFn 8 KC
abbrev mY:Ms:=(aQ<|mUn (vGd [("add","count"),("choose","choice"),("put","bag"),("take","bag"),("write","text"),("cut","text"),("mark","text"),("clear","text")])<|mV 0)
abbrev eM:Fn:=Yc mY
abbrev oW:Ms:=(aQ<|mIf (aN<|aB cI (mV 1)<|mUn (aK "made")<|mV 0) (mSl (o_ (mUn (aK "made")<|mV 0)<|mV 1) (mP<|e_ 1) kM)<|mC .non)
abbrev jY:Fn:=δ3 oW
abbrev jC:Ms:=
 (aF (bE (aN (Yw (mV 1) (mC (.tup [.str "",.int (0)]))))
  (aQ<|mC<|.str "map")
  bP)
 (aQ (mIf (aN (aB cI (mV 1) (mUn (aK "made") (mV 0)))) (o_ (o_ (mUn (aK "made") (mV 0)) (mV 1)) (e_ 0)) (mC .non))))
abbrev fB:Fn:=δ3 jC
abbrev bX:Str->l7 Fn:=λ(z:Str)=>if z=("Tree" : Str) then a8 fB else(λ_=>a9) z
abbrev qJ:Str->l7 Fn:=λ(z:Str)=>if z=("Tree" : Str) then a8 jY else(λ_=>a9) z
abbrev kN:Ms:=
 (aF (aT 3 (bD 1 eM (aA (mV 1) aC)))
 (bE (oC (aN (aB vIs (aH "held" 1 qJ (mV 0) (aA (mV 2) aC)) (mC .non))) (qV (aN (aB iV (mV 3) (mC .non))) (aN (ζz (aH "kind_of" 1 bX (mV 0) (aA (mV 2) aC)) (mV 3)))))
  bN
  bP))
abbrev gI:Fn:=εJ kN
abbrev mZ:Ms:=(aQ<|aB bU (aH "kind_of" 1 bX (mV 0)<|aA (mV 1) aC)<|mIf (aN<|mCB B5<|aA (mV 2)<|aA (mC<|.ty "str") aC) (mC<|.str "map")<|mC<|.str "row")
abbrev iM:Fn:=εI mZ
abbrev qZ:Ms:=
 (aF bN
  (aF bN
  bN))
abbrev oX:Ms:=
 (aF (aT 3 (cK aC))
 (aF (aT 4 (mV 2))
 (aF (vA 1000000 (aN (aB cI (mV 4) (mUn (aK "made") (mV 0)))) qZ)
 (aQ (cK aC)))))
abbrev oY:Fn:=mFn 5 oX
abbrev xQ:Str->l7 Fn:=λ(z:Str)=>if z=("Tree" : Str) then a8 oY else(λ_=>a9) z
abbrev nB:Ms:=
 (aF (aT 3 (aH "ring" 2 xQ (mV 0) (aA (mV 1) (aA (mV 2) aC))))
 (bE (aN (mV 3))
  bN
  bP))
abbrev uE:Fn:=εJ nB
abbrev jD:Str->l7 Fn:=λ(z:Str)=>if z=("Tree" : Str) then a8 iM else(λ_=>a9) z
abbrev gY:Ms:=
 (aF (aT 2 (o_ (mV 1) (e_ 0)))
 (aF (bE (aN (ζz (mV 2) (mC (.str "make"))))
  (dY<|bD 3 gI<|aA (mUn (aK "tree")<|mV 0)<|aA (mV 2)<|aA (o_ (mV 1)<|e_ 1) aC)
  bP)
 (aF (bE (qV (aN (aB cI (mV 2) (aX (aA (mC (.str "make")) (aA (mC (.str "move")) aC))))) (qU (aN (aH "takes" 2 jD (mUn (aK "tree") (mV 0)) (aA (o_ (mV 1) (e_ 2)) (aA (o_ (mV 1) (e_ 3)) aC))))))
  bN
  bP)
 (bE (aN (Yw (mV 2) (mC (.str "move"))))
  (dY<|bD 3 uE<|aA (mUn (aK "tree")<|mV 0)<|aA (o_ (mV 1)<|e_ 1)<|aA (o_ (mV 1)<|e_ 2) aC)
  (bE (aN (Yw (mV 2) (mC (.str "cut"))))
   bN
   (bE (aN (aB cI (mV 2) (aX (aA (mC (.str "mark")) (aA (mC (.str "clear")) aC)))))
    (aF bN
    bN)
    bP))))))
abbrev bT:Fn:=εI gY
abbrev iC:Ms:=
 (aF (bG "made" (mV 0) dI)
 (bG "failed" (mV 0) (cK aC)))
abbrev iD:Fn:=Yc iC
abbrev nC:Ms:=(bG "total" (mV 0)<|mV 1)
abbrev uF:Fn:=δ3 nC
abbrev rA:Ms:=(bG "standing" (mV 0)<|mCB bW<|aA (mV 1) aC)
abbrev rB:Fn:=δ3 rA
abbrev An:Ms:=(bG "standing" (mV 0)<|mCB bW<|aA (mV 1) aC)
abbrev Ao:Fn:=δ3 An
abbrev nD:Ms:=(bG "standing" (mV 0)<|bK [a9] (bB<|mV 1) (gN 0) dU<|aB aU (mSl (mV 0) kM<|mP<|e_ 4)<|aX<|aA (mCB oI<|aA (o_ (mV 0)<|e_ 4) aC) aC)
abbrev uG:Fn:=δ3 nD
abbrev nE:Ms:=(bG "kept" (mV 0)<|mCB Ae<|aA (mV 1) aC)
abbrev uH:Fn:=δ3 nE
abbrev xR:Str->l7 Fn:=λ(z:Str)=>if z=("Marks" : Str) then a8 uG else(λ(z:Str)=>if z=("Signs" : Str) then a8 uH else(λ_=>a9) z) z
abbrev oZ:Ms:=
 (aF (qR (mV 1) (ZE (gCn (gN 2) (gCn (gN 3) gNl))))
 (aF (dY (aH "fill" 1 xR (mUn (aK "signs") (mV 0)) (aA (mV 2) aC)))
 (dY (aH "fill" 1 xR (mUn (aK "marks") (mV 0)) (aA (mV 3) aC)))))
abbrev wR:Fn:=εJ oZ
abbrev kO:Ms:=(iY (aX<|aA (mV 4)<|aA (mV 5)<|aA (mV 6) aC) (mUn (aK "made")<|mV 0)<|mV 3)
abbrev pA:Ms:=
 (aF (bG "made" (mV 0) dI)
 (aF (gP (bB (mV 1)) (gTp 4 (gCn (gN 3) (gCn (gN 4) (gCn (gN 5) (gCn (gN 6) gNl))))) kO)
 (bG "failed" (mV 0) (β2 (aA (mV 2) aC)))))
abbrev pB:Fn:=mFn 7 pA
abbrev fR:Ms:=(bG "total" (mV 0)<|e_ 0)
abbrev lX:Fn:=Yc fR
abbrev jZ:Ms:=(bG "standing" (mV 0)<|cK aC)
abbrev kC:Fn:=Yc jZ
abbrev pC:Ms:=(bG "standing" (mV 0)<|cK aC)
abbrev pD:Fn:=Yc pC
abbrev lY:Ms:=(bG "kept" (mV 0) dI)
abbrev lZ:Fn:=Yc lY
abbrev mB:Ms:=(bG "standing" (mV 0)<|cK aC)
abbrev mD:Fn:=Yc mB
abbrev iE:Ms:=
 (aF (bG "signs" (mV 0) (eG "Signs" 0 lZ aC))
 (bG "marks" (mV 0) (eG "Marks" 0 mD aC)))
abbrev nX:Fn:=Yc iE
abbrev vI:Ms:=
 (aF (bE (aN (Yw (mV 0) (mC (.str "count"))))
  (aQ<|eG "Count" 0 lX aC)
  bP)
 (aF (bE (aN (Yw (mV 0) (mC (.str "choice"))))
  (aQ<|eG "Choice" 0 kC aC)
  bP)
 (aF (bE (aN (Yw (mV 0) (mC (.str "bag"))))
  (aQ<|eG "Bag" 0 pD aC)
  bP)
 (aF (bE (aN (Yw (mV 0) (mC (.str "text"))))
  (aQ<|eG "Text" 0 nX aC)
  bP)
 (aQ (mC .non))))))
abbrev vJ:Fn:=Yc vI
abbrev cZ:Ms:=
 (aF (aT 3 (bD 1 vJ (aA (mV 2) aC)))
 (bE (aN (aB iV (mV 3) (mC .non)))
  (iY (mV 3) (mUn (aK "leaves")<|mV 0)<|mV 1)
  bP))
abbrev jE:Fn:=εJ cZ
abbrev BM:Str->l7 Fn:=λ(z:Str)=>if z=("Tree" : Str) then a8 pB else(λ_=>a9) z
abbrev kD:Str->l7 Fn:=λ(z:Str)=>if z=("Folding" : Str) then a8 jE else(λ_=>a9) z
abbrev iR:Str->l7 Fn:=λ(z:Str)=>if z=("Count" : Str) then a8 uF else(λ(z:Str)=>if z=("Choice" : Str) then a8 rB else(λ(z:Str)=>if z=("Bag" : Str) then a8 Ao else(λ(z:Str)=>if z=("Text" : Str) then a8 wR else(λ_=>a9) z) z) z) z
abbrev cJ:Ms:=
 (aF (dY (aH "add_leaf" 2 kD (mV 0) (aA (mV 4) (aA (mV 5) aC))))
  (bE (aN (aB cI (mV 4) (mUn (aK "leaves") (mV 0))))
   (dY<|aH "fill" 1 iR (o_ (mUn (aK "leaves")<|mV 0)<|mV 4)<|aA (mV 8) aC)
   bP))
abbrev eO:Ms:=
 (aF (qR (mV 1) (ZE (gCn (gN 2) (gCn (gN 3) gNl))))
 (aF (bG "tree" (mV 0) (eG "Tree" 0 iD aC))
 (aF (dY (aH "fill" 2 BM (mUn (aK "tree") (mV 0)) (aA (bK [a9] (bB (mV 2)) (gN 0) dU (mSl (mV 0) kM (mP (e_ 4)))) (aA (mV 3) aC))))
 (aF (bG "leaves" (mV 0) dI)
 (gP (bB (mV 2)) (gTp 5 (gCn (gN 4) (gCn (gN 5) (gCn (gN 6) (gCn (gN 7) (gCn (gN 8) gNl)))))) cJ)))))
abbrev bQ:Fn:=mFn 9 eO
abbrev xS:Ms:=(aQ<|aB aU (e_ 1)<|mCB Il<|aA (bK [a9] (bB<|aB vAt (mV 0)<|e_ 1) (gN 0) dU<|aB vAt (mV 0)<|e_ 1) aC)
abbrev xT:Fn:=Yc xS
abbrev FB:Ms:=
 (aF (qR (o_ (mV 0) (e_ 0)) (ZE (gCn (gN 1) (gCn (gN 2) gNl))))
 (aQ (aX (aA (bD 1 xT (aA (mV 0) aC)) (aA (mV 1) (aA (mV 2) aC))))))
abbrev FC:Fn:=εI FB
abbrev nF:Ms:=(iY (mV 2) (mV 1)<|aB vAt (mV 2)<|e_ 0)
abbrev rZ:Ms:=
 (aF (aT 1 dI)
 (aF (gP (bB (mV 0)) (gN 2) nF)
 (aQ (jB FC false (hV cE zX (mV 1))))))
abbrev fS:Fn:=εI rZ
abbrev vK:Ms:=(aQ<|aB vAt (mV 0)<|e_ 0)
abbrev qK:Fn:=Yc vK
abbrev sA:Ms:=
 (aF (qR (o_ (mV 3) (e_ 0)) (ZE (gCn (gN 4) (gCn (gN 5) gNl))))
  (aF (aT 6 (o_ (o_ (mV 3) (e_ 2)) (e_ 0)))
  (aF (bE (aN (Yw (mV 6) (mC (.str "settle"))))
   (aF (iY (cK aC) (mV 2) (mV 4))
   MQ)
   bP)
  (aF bN
  bN))))
abbrev Ap:Ms:=
 (aF (aT 1 dI)
 (aF (aT 2 dI)
 (aF (gP (bB (jB qK true (mV 0))) (gN 3) sA)
 (aQ (mV 1)))))
abbrev Aq:Fn:=mFn 8 Ap
abbrev sD:Ms:=
 (aF (aT 1 (bD 1 fS (aA (mV 0) aC)))
 (aF (aT 2 (bD 1 Aq (aA (mV 1) aC)))
 (aQ (bK [a9,a8 2] (bB (mV 1)) (gN 0) (aN (aB aW (o_ (mV 0) (e_ 0)) (mV 1))) (mV 0)))))
abbrev sE:Fn:=εI sD
abbrev pF:Ms:=(aQ<|bD 1 fS<|aA (β2<|aA (hV cE zX<|mUn (aK "kept")<|mV 0) aC) aC)
abbrev pG:Fn:=Yc pF
abbrev sF:Ms:=
 (aF (qR (mV 0) (ZE (gCn (gN 2) (gCn (gN 3) gNl))))
 (aF (qR (mV 1) (ZE (gCn (gN 4) (gCn (gN 5) gNl))))
 (aQ (Y5 (mV 2) (aX (aA (aX (aA (mV 3) (aA (mV 4) (aA (mV 5) (aA (e_ 0) aC))))) aC))))))
abbrev Ar:Fn:=mFn 6 sF
abbrev sG:Ms:=(aQ<|mIf (aN<|mCB B5<|aA (mV 0)<|aA (mC<|.ty "str") aC) (mV 0)<|bD 2 Ar<|aA (mV 0)<|aA (mV 1) aC)
abbrev jF:Fn:=δ3 sG
abbrev fU:Ms:=
 (aF (qR (mV 2) (gTp 4 (gCn (gN 3) (gCn (gN 4) (gCn (gN 5) (gCn (gN 6) gNl))))))
 (aF (bE (qU (aN (aH "takes" 2 jD (mV 0) (aA (mV 5) (aA (mV 6) aC)))))
  bN
  bP)
 (aF (iY (aX (aA (mV 4) (aA (mV 5) (aA (bD 2 jF (aA (mV 6) (aA (mV 1) aC))) aC)))) (mUn (aK "made") (mV 0)) (mV 1))
 (aQ (mC (.str "done"))))))
abbrev mE:Fn:=mFn 7 fU
abbrev sH:Ms:=(iY (aX<|aA (o_ (o_ (mUn (aK "made")<|mV 0)<|mV 1)<|e_ 0)<|aA (mV 2)<|aA (mV 3) aC) (mUn (aK "made")<|mV 0)<|mV 1)
abbrev sI:Fn:=εJ sH
abbrev Cz:Str->l7 Fn:=λ(z:Str)=>if z=("Tree" : Str) then a8 sI else(λ_=>a9) z
abbrev fV:Ms:=
 (aF (qR (mV 2) (gTp 4 (gCn (gN 3) (gCn (gN 4) (gCn (gN 5) (gCn (gN 6) gNl))))))
 (aF (bE (qU (aN (aH "takes" 2 jD (mV 0) (aA (mV 5) (aA (mV 6) aC)))))
  bN
  bP)
 (aF (bE (aN (aH "ring" 2 xQ (mV 0) (aA (mV 4) (aA (mV 5) aC))))
  (aF bN
  bN)
  bP)
 (aF (dY (aH "put" 3 Cz (mV 0) (aA (mV 4) (aA (mV 5) (aA (bD 2 jF (aA (mV 6) (aA (mV 1) aC))) aC)))))
 (aQ (mC (.str "done")))))))
abbrev mF:Fn:=mFn 7 fV
abbrev uI:Str->l7 Fn:=λ(z:Str)=>if z=("Tree" : Str) then a8 mE else(λ_=>a9) z
abbrev uJ:Str->l7 Fn:=λ(z:Str)=>if z=("Tree" : Str) then a8 mF else(λ_=>a9) z
abbrev gZ:Ms:=
 (aF (qR (mV 1) (gTp 3 (gCn (gN 2) (gCn (gN 3) (gCn (gN 4) gNl)))))
 (aF (bE (aN (Yw (o_ (mV 4) (e_ 0)) (mC (.str "make"))))
  (aQ<|aH "hear_make" 2 uI (mV 0)<|aA (mV 2)<|aA (mV 4) aC)
  bP)
 (aF (bE (aN (aB aW (o_ (mV 4) (e_ 1)) (mUn (aK "made") (mV 0))))
  bN
  bP)
 (aF (bE (aN (Yw (o_ (mV 4) (e_ 0)) (mC (.str "drop"))))
  (aF (dY (aH "put" 3 Cz (mV 0) (aA (o_ (mV 4) (e_ 1)) (aA (mC .non) (aA (mC .non) aC)))))
  (aQ (mC (.str "done"))))
  bP)
 (aQ (aH "hear_move" 2 uJ (mV 0) (aA (mV 2) (aA (mV 4) aC))))))))
abbrev kE:Fn:=mFn 5 gZ
abbrev CA:Str->l7 Fn:=λ(z:Str)=>if z=("Tree" : Str) then a8 kE else(λ_=>a9) z
abbrev cN:Ms:=
 (aF (aT 2 (aH "hear" 1 CA (mUn (aK "tree") (mV 0)) (aA (mV 1) aC)))
 (aF (aT 3 (o_ (mV 1) (e_ 2)))
 (aF (bE (qV (aN (Yw (o_ (mV 3) (e_ 0)) (mC (.str "make")))) (aN (Yw (mV 2) (mC (.str "done")))))
  (dY<|aH "add_leaf" 2 kD (mV 0)<|aA (o_ (mV 1)<|e_ 0)<|aA (o_ (mV 3)<|e_ 1) aC)
  bP)
 (aQ (mV 2)))))
abbrev iI:Fn:=εJ cN
abbrev nG:Ms:=
 (aF (aT 2 (o_ (mV 1) (e_ 2)))
 (bE (aN (Yw (o_ (mV 2) (e_ 0)) (mC (.str "add"))))
  (GC "total" (mV 0)<|aB vAt (mV 2)<|e_ 2)
  bP))
abbrev nH:Fn:=εI nG
abbrev sJ:Ms:=
 (bE (aN (Yw (mV 2) (o_ (mV 1) (e_ 0))))
   (aQ<|aB vLe (o_ (mV 1)<|e_ 1)<|mV 3)
   bP)
abbrev Au:Ms:=
 (aF (gP (bB (mV 0)) (ZE (gCn (gN 2) (gCn (gN 3) gNl))) sJ)
 bN)
abbrev hL:Fn:=εJ Au
abbrev kQ:Ms:=
 (aF (qR (mV 1) (gTp 3 (gCn (gN 2) (gCn (gN 3) (gCn (gN 4) gNl)))))
 (bE (aN (Yw (o_ (mV 4) (e_ 0)) (mC (.str "choose"))))
  (aF (aT 5 (bK [a9,a8 3] (bB (mUn (aK "standing") (mV 0))) (gN 0) (qU (aN (bD 2 hL (aA (mV 1) (aA (o_ (mV 0) (e_ 0)) aC))))) (mV 0)))
  (bG "standing" (mV 0) (Y5 (mV 5) (cK (aA (aX (aA (mV 2) (aA (o_ (mV 4) (e_ 2)) aC))) aC)))))
  bP))
abbrev kR:Fn:=mFn 6 kQ
abbrev sL:Ms:=
 (aF (qR (mV 1) (gTp 3 (gCn (gN 2) (gCn (gN 3) (gCn (gN 4) gNl)))))
 (bE (aN (Yw (o_ (mV 4) (e_ 0)) (mC (.str "put"))))
  (bG "standing" (mV 0)<|aB aU (mUn (aK "standing")<|mV 0)<|cK<|aA (aX<|aA (mV 2)<|aA (o_ (mV 4)<|e_ 2) aC) aC)
  (bE (aN (Yw (o_ (mV 4) (e_ 0)) (mC (.str "take"))))
   (bG "standing" (mV 0)<|bK [a9,a8 4,a8 3] (bB<|mUn (aK "standing")<|mV 0) (gN 0) (oC (aN<|aB hZ (o_ (mV 0)<|e_ 1)<|aB vAt (mV 1)<|e_ 2)<|qU<|aN<|bD 2 hL<|aA (mV 2)<|aA (o_ (mV 0)<|e_ 0) aC)<|mV 0)
   bP)))
abbrev sM:Fn:=mFn 5 sL
abbrev nI:Str->l7 Fn:=λ(z:Str)=>if z=("Folding" : Str) then a8 iI else(λ_=>a9) z
abbrev nJ:Str->l7 Fn:=λ(z:Str)=>if z=("Count" : Str) then a8 nH else(λ(z:Str)=>if z=("Choice" : Str) then a8 kR else(λ(z:Str)=>if z=("Bag" : Str) then a8 sM else(λ_=>a9) z) z) z
abbrev cS:Ms:=
 (aF (aT 2 (o_ (mV 1) (e_ 2)))
 (aF (bE (aN (aB cI (o_ (mV 2) (e_ 0)) (aX (aA (mC (.str "make")) (aA (mC (.str "move")) (aA (mC (.str "drop")) aC))))))
  (aQ<|aH "hear_tree" 1 nI (mV 0)<|aA (mV 1) aC)
  bP)
 (aF (bE (aN (aB aW (o_ (mV 2) (e_ 0)) (aX (aA (mC (.str "back")) (aA (mC (.str "settle")) aC)))))
  (aF (bE (aN (ζz (aH "kind_of" 1 bX (mUn (aK "tree") (mV 0)) (aA (o_ (mV 2) (e_ 1)) aC)) (bD 1 eM (aA (o_ (mV 2) (e_ 0)) aC))))
   bN
   bP)
  (dY (aH "hear" 1 nJ (o_ (mUn (aK "leaves") (mV 0)) (o_ (mV 2) (e_ 1))) (aA (mV 1) aC))))
  bP)
 (aQ (mC (.str "done"))))))
abbrev bL:Fn:=εI cS
abbrev dM:Str->l7 Fn:=λ(z:Str)=>if z=("Desk" : Str) then a8 pG else(λ_=>a9) z
abbrev eP:Str->l7 Fn:=λ(z:Str)=>if z=("Folding" : Str) then a8 bL else(λ_=>a9) z
abbrev iF:Ms:=
 (bE (aN (aB vGt (bD 1 xT (aA (mV 1) aC)) (mUn (aK "floor") (mV 0))))
    (dY<|aH "hear" 1 eP (mUn (aK "folding")<|mV 0)<|aA (mV 1) aC)
    bP)
abbrev kU:Ms:=
 (aF (bE (aN (aB vIs (mUn (aK "folding") (mV 0)) (mC .non)))
  (aF (bG "folding" (mV 0) (eG "Folding" 1 bQ (aA (mUn (aK "ground") (mV 0)) aC)))
  (gP (bB (bD 1 sE (aA (aH "held" 0 dM (mV 0) aC) aC))) (gN 1) iF))
  bP)
 (aQ (mUn (aK "folding") (mV 0))))
abbrev kW:Fn:=δ3 kU
abbrev sN:Ms:=(iY (mCB JF<|aA (mV 4)<|aA (δ5 (mV 2)<|aA (mV 3)<|aA (mV 4) aC) aC) (mV 2)<|mV 3)
abbrev Av:Ms:=
 (aF (aT 2 (mCB wL (aA (mV 0) aC)))
 (aF (gP (bB (mV 1)) (ZE (gCn (gN 3) (gCn (gN 4) gNl))) sN)
 (aQ (mCB oI (aA (mCB cG (aA (βO (mV 2)) aC)) aC)))))
abbrev DX:Fn:=mFn 5 Av
abbrev vL:Ms:=(aQ<|bD 2 DX<|aA (mV 0)<|aA (aX<|aA (mV 1) aC) aC)
abbrev vM:Fn:=δ3 vL
abbrev jG:Ms:=
 (aF (qR (mV 1) (gTp 3 (gCn (gN 2) (gCn (gN 3) (gCn (gN 4) gNl)))))
 (aF (iY (mV 1) (mUn (aK "kept") (mV 0)) (mV 2))
 (aF (bG "taken" (mV 0) (bD 2 vM (aA (mUn (aK "taken") (mV 0)) (aA (mV 2) aC))))
 (bE (aN (Yw (o_ (mV 4) (e_ 0)) (mC (.str "settle"))))
  (iY (mV 1) (mUn (aK "settles")<|mV 0)<|aB vAt (mV 2)<|e_ 0)
  bP))))
abbrev jH:Fn:=mFn 5 jG
abbrev dE:Str->l7 Fn:=λ(z:Str)=>if z=("Desk" : Str) then a8 kW else(λ_=>a9) z
abbrev sO:Str->l7 Fn:=λ(z:Str)=>if z=("Desk" : Str) then a8 jH else(λ_=>a9) z
abbrev vN:Ms:=
 (aF (aT 2 (δ5 (mCB wL (aA (mUn (aK "taken") (mV 0)) aC)) (aA (mUn (aK "hand") (mV 0)) (aA (e_ 0) aC))))
 (aF (bE (aN (Yw (o_ (mV 1) (e_ 0)) (mC (.str "back"))))
  bN
  (bE (aN (ζz (o_ (mV 1) (e_ 0)) (mC (.str "settle"))))
   (dY<|bD 2 bT<|aA (aH "folded" 0 dE (mV 0) aC)<|aA (mV 1) aC)
   bP))
 (aF (aT 3 (aX (aA (aX (aA (mUn (aK "hand") (mV 0)) (aA (Y5 (mV 2) (e_ 1)) aC))) (aA (mUn (aK "taken") (mV 0)) (aA (mV 1) aC)))))
 (aF (dY (aH "take_in" 1 sO (mV 0) (aA (mV 3) aC)))
 (aF (bE (aN (Yw (o_ (mV 1) (e_ 0)) (mC (.str "back"))))
  bN
  (bE (aN (aB iV (mUn (aK "folding") (mV 0)) (mC .non)))
   (dY<|aH "hear" 1 eP (mUn (aK "folding")<|mV 0)<|aA (mV 3) aC)
   bP))
 (aQ (mV 3)))))))
abbrev vO:Fn:=εJ vN
abbrev pH:Ms:=(aQ<|mUn (aK "taken")<|mV 0)
abbrev kF:Fn:=Yc pH
abbrev iG:Ms:=(aQ<|mUn (aK "total")<|mV 0)
abbrev nY:Fn:=Yc iG
abbrev fW:Ms:=(aQ<|mCB bW<|aA (mUn (aK "standing")<|mV 0) aC)
abbrev mG:Fn:=Yc fW
abbrev kX:Ms:=(aQ<|mCB bW<|aA (mUn (aK "standing")<|mV 0) aC)
abbrev rC:Fn:=Yc kX
abbrev nK:Ms:=(aQ<|bK [a9] (bB<|mUn (aK "standing")<|mV 0) (gN 0) dU<|aB aU (mSl (mV 0) kM<|mP<|e_ 4)<|aX<|aA (β2<|aA (o_ (mV 0)<|e_ 4) aC) aC)
abbrev iN:Fn:=Yc nK
abbrev vP:Ms:=(aQ<|aB aU (mV 0)<|aX<|aA (aX<|aA (e_ 0) aC) aC)
abbrev eR:Fn:=Yc vP
abbrev Aw:Ms:=(aQ<|bD 1 eR<|aA (o_ (mV 0)<|e_ 0) aC)
abbrev sP:Fn:=Yc Aw
abbrev nL:Ms:=(aQ<|jB sP false<|hV cE cM<|mUn (aK "kept")<|mV 0)
abbrev fC:Fn:=Yc nL
abbrev CB:Str->l7 Fn:=λ(z:Str)=>if z=("Marks" : Str) then a8 iN else(λ(z:Str)=>if z=("Signs" : Str) then a8 fC else(λ_=>a9) z) z
abbrev jI:Ms:=(aQ<|aX<|aA (aH "rows" 0 CB (mUn (aK "signs")<|mV 0) aC)<|aA (aH "rows" 0 CB (mUn (aK "marks")<|mV 0) aC) aC)
abbrev pI:Fn:=Yc jI
abbrev dN:Str->l7 Fn:=λ(z:Str)=>if z=("Count" : Str) then a8 nY else(λ(z:Str)=>if z=("Choice" : Str) then a8 mG else(λ(z:Str)=>if z=("Bag" : Str) then a8 rC else(λ(z:Str)=>if z=("Text" : Str) then a8 pI else(λ_=>a9) z) z) z) z
abbrev dO:Ms:=(aQ<|mIf (aN<|aB cI (mV 1)<|mUn (aK "leaves")<|mV 0) (aH "content" 0 dN (o_ (mUn (aK "leaves")<|mV 0)<|mV 1) aC)<|mC .non)
abbrev dQ:Fn:=δ3 dO
abbrev pJ:Ms:=(aQ<|aB vAt (mV 0)<|e_ 0)
abbrev wU:Fn:=Yc pJ
abbrev pL:Ms:=(aQ<|jB wU false<|iZ (βO<|mUn (aK "made")<|mV 0)<|bK [a9,a9] (oT<|hV cE cM<|mUn (aK "made")<|mV 0) (ZE<|gCn (gN 0)<|gCn (gN 1) gNl) dU<|aB aU (aX<|aA (mV 0) aC)<|mV 1)
abbrev pM:Fn:=Yc pL
abbrev pO:Ms:=(aQ<|mCB bW<|aA (mUn (aK "failed")<|mV 0) aC)
abbrev kG:Fn:=Yc pO
abbrev GI:Str->l7 Fn:=λ(z:Str)=>if z=("Tree" : Str) then a8 kG else(λ_=>a9) z
abbrev Ax:Str->l7 Fn:=λ(z:Str)=>if z=("Tree" : Str) then a8 pM else(λ_=>a9) z
abbrev rD:Str->l7 Fn:=λ(z:Str)=>if z=("Folding" : Str) then a8 dQ else(λ_=>a9) z
abbrev jJ:Ms:=(aQ<|aX<|aA (bK [a9,a8 0] (bB<|aH "rows" 0 Ax (mUn (aK "tree")<|mV 0) aC) (gN 0) dU<|aB aU (mV 0)<|aX<|aA (aH "content_of" 1 rD (mV 1)<|aA (o_ (mV 0)<|e_ 0) aC) aC)<|aA (aH "lost" 0 GI (mUn (aK "tree")<|mV 0) aC) aC)
abbrev jK:Fn:=Yc jJ
abbrev uK:Str->l7 Fn:=λ(z:Str)=>if z=("Folding" : Str) then a8 jK else(λ_=>a9) z
abbrev sQ:Ms:=(aQ<|aH "base" 0 uK (aH "folded" 0 dE (mV 0) aC) aC)
abbrev sS:Fn:=Yc sQ
abbrev Ay:Ms:=(dY<|aH "hear" 1 eP (mV 2)<|aA (mV 3) aC)
abbrev FD:Ms:=
 (aF (aT 2 (eG "Folding" 1 bQ (aA (mV 0) aC)))
 (aF (gP (bB (bD 1 fS (aA (mV 1) aC))) (gN 3) Ay)
 (aQ (aH "base" 0 uK (mV 2) aC))))
abbrev Az:Fn:=εJ FD
abbrev pP:Ms:=(aQ<|bD 2 Az<|aA (mUn (aK "ground")<|mV 0)<|aA (cK aC) aC)
abbrev pQ:Fn:=Yc pP
abbrev kY:Ms:=
 (aF (aT 2 (iZ (βO (mUn (aK "made") (mV 0))) (bK [a9,a9,a8 1] (oT (βO (mUn (aK "made") (mV 0)))) (ZE (gCn (gN 0) (gCn (gN 1) gNl))) (aN (Yw (o_ (mV 1) (e_ 1)) (mV 2))) (aX (aA (o_ (mV 1) (e_ 2)) (aA (mV 0) aC))))))
 (aF (bE (aN (Yw (aH "kind_of" 1 bX (mV 0) (aA (mV 1) aC)) (mC (.str "row"))))
  (aT 2<|bK [a9,a9] (bB<|mV 2) (ZE<|gCn (gN 0)<|gCn (gN 1) gNl) dU<|aX<|aA (bD 1 eR<|aA (mV 0) aC)<|aA (mV 1) aC)
  bP)
 (aQ (bK [a9,a9] (bB (mCB cG (aA (mV 2) aC))) (ZE (gCn (gN 0) (gCn (gN 1) gNl))) dU (mV 1)))))
abbrev kZ:Fn:=εI kY
abbrev mH:Str->l7 Fn:=λ(z:Str)=>if z=("Tree" : Str) then a8 kZ else(λ_=>a9) z
abbrev cO:Ms:=
 (aF (aT 3 (hV isL (onL Fe) (mV 2)))
  (aF (dY (δ4 (onL eW) (mV 1) (aA (mV 3) aC)))
  (dY (δ4 mX (mV 2) (aA (aH "within" 1 mH (mUn (aK "tree") (mV 0)) (aA (mV 3) aC)) aC)))))
abbrev fD:Ms:=
 (aF (aT 1 (cK aC))
 (aF (aT 2 (cK (aA (mC (.tup [.str "",.int (0)])) aC)))
 (aF (vA 1000000 (aN (mV 2)) cO)
 (aQ (mV 1)))))
abbrev fE:Fn:=εJ fD
abbrev nM:Ms:=(aQ<|mUn (aK "total")<|mV 0)
abbrev uL:Fn:=Yc nM
abbrev nN:Ms:=(aQ<|mUn lQ<|bK [a9,a9] (bB<|mV 0) (ZE<|gCn (gN 0)<|gCn (gN 1) gNl) dU<|mV 1)
abbrev iO:Fn:=Yc nN
abbrev lD:Ms:=(aQ<|bD 1 iO<|aA (mUn (aK "standing")<|mV 0) aC)
abbrev rE:Fn:=Yc lD
abbrev sT:Ms:=(aQ<|bD 1 iO<|aA (mUn (aK "standing")<|mV 0) aC)
abbrev AA:Fn:=Yc sT
abbrev uM:Ms:=bN
abbrev sU:Ms:=
 (aF (aT 1 dI)
 (aF (gP (bB (jB eR false (mV 0))) (gN 2) uM)
 (aQ (mV 1))))
abbrev sV:Fn:=εI sU
abbrev pR:Ms:=bN
abbrev nO:Ms:=
 (aF (aT 1 dI)
 (aF (gP (bB (mUn (aK "standing") (mV 0))) (gN 2) pR)
 (aQ (β2 (aA (mV 1) aC)))))
abbrev nP:Fn:=mFn 5 nO
abbrev GJ:Str->l7 Fn:=λ(z:Str)=>if z=("Marks" : Str) then a8 nP else(λ_=>a9) z
abbrev fK:Ms:=bN
abbrev fM:Ms:=
 (aF bN
  bN)
abbrev dZ:Ms:=
 (aF (aT 2 (bD 1 sV (aA (Y5 (mV 1) (aH "ends" 0 GJ (mV 0) aC)) aC)))
 (aF (aT 3 (cK aC))
 (aF (gP (bB (mUn (aK "standing") (mV 0))) (gN 4) fK)
 (aF (aT 5 (cK aC))
 (aF (gP (bB (mV 1)) (gN 6) fM)
 (aQ (mV 5)))))))
abbrev eC:Fn:=mFn 8 dZ
abbrev fX:Str->l7 Fn:=λ(z:Str)=>if z=("Signs" : Str) then a8 fC else(λ_=>a9) z
abbrev lG:Ms:=(aQ<|bK [a9,a9] (bB<|aH "rows" 0 fX (mUn (aK "signs")<|mV 0) aC) (ZE<|gCn (gN 0)<|gCn (gN 1) gNl) dU<|mV 0)
abbrev rG:Fn:=Yc lG
abbrev pS:Str->l7 Fn:=λ(z:Str)=>if z=("Marks" : Str) then a8 eC else(λ_=>a9) z
abbrev BN:Str->l7 Fn:=λ(z:Str)=>if z=("Text" : Str) then a8 rG else(λ_=>a9) z
abbrev pU:Ms:=
 (aF (aT 1 (aH "words_along" 1 pS (mUn (aK "marks") (mV 0)) (aA (aH "places" 0 BN (mV 0) aC) aC)))
 (aQ (bK [a9,a9,a8 1] (KB (aA (aH "rows" 0 fX (mUn (aK "signs") (mV 0)) aC) aC)) (ZE (gCn (gN 0) (gCn (gN 1) gNl))) dU (aX (aA (o_ (mV 1) (e_ 0)) (aA (o_ (mV 1) (e_ 1)) (aA (o_ (mV 2) (mV 0)) aC)))))))
abbrev pV:Fn:=δ3 pU
abbrev qL:Str->l7 Fn:=λ(z:Str)=>if z=("Count" : Str) then a8 uL else(λ(z:Str)=>if z=("Choice" : Str) then a8 rE else(λ(z:Str)=>if z=("Bag" : Str) then a8 AA else(λ(z:Str)=>if z=("Text" : Str) then a8 pV else(λ_=>a9) z) z) z) z
abbrev fF:Ms:=
 (aF (aT 3 (aH "kind_of" 1 bX (mUn (aK "tree") (mV 0)) (aA (mV 1) aC)))
 (aF (bE (aN (aB cI (mV 1) (mUn (aK "leaves") (mV 0))))
  (aQ<|aX<|aA (mV 3)<|aA (aH "told" 0 qL (o_ (mUn (aK "leaves")<|mV 0)<|mV 1) aC) aC)
  bP)
 (aQ (aX (aA (mV 3) (aA (bK [a9,a8 2,a8 0] (bB (aH "within" 1 mH (mUn (aK "tree") (mV 0)) (aA (mV 1) aC))) (gN 0) dU (aX (aA (o_ (aH "held" 1 qJ (mUn (aK "tree") (mV 2)) (aA (mV 0) aC)) (e_ 1)) (aA (mV 0) (aA (o_ (mV 1) (mV 0)) aC))))) aC))))))
abbrev fG:Fn:=εJ fF
abbrev AB:Str->l7 Fn:=λ(z:Str)=>if z=("Folding" : Str) then a8 fE else(λ_=>a9) z
abbrev AC:Str->l7 Fn:=λ(z:Str)=>if z=("Folding" : Str) then a8 fG else(λ_=>a9) z
abbrev fY:Ms:=(iY (aH "telling" 2 AC (mV 0)<|aA (mV 2)<|aA (mV 1) aC) (mV 1)<|mV 2)
abbrev jL:Ms:=
 (aF (aT 1 dI)
 (aF (gP (Kf (aA (aH "hanging" 0 AB (mV 0) aC) aC)) (gN 2) fY)
 (aQ (o_ (mV 1) (mC (.tup [.str "",.int (0)]))))))
abbrev jM:Fn:=εI jL
abbrev nQ:Str->l7 Fn:=λ(z:Str)=>if z=("Folding" : Str) then a8 jM else(λ_=>a9) z
abbrev pW:Ms:=(aQ<|aH "told" 0 nQ (aH "folded" 0 dE (mV 0) aC) aC)
abbrev pY:Fn:=Yc pW
abbrev FF:Ms:=(aQ<|aH "told" 0 nQ (eG "Folding" 1 bQ<|aA (mV 0) aC) aC)
abbrev CC:Fn:=Yc FF
abbrev jN:Ms:=(aQ<|mCB cG<|aA (mUn (aK "early")<|mV 0) aC)
abbrev fH:Fn:=Yc jN
abbrev nR:Ms:=(aQ<|mUn (aK "floor")<|mV 0)
abbrev iP:Fn:=Yc nR
abbrev fZ:Ms:=
 (aF (bE (aN (aB aW (mV 1) (mV 2)))
  (Af "NoHand"<|aA (mC<|.str "a desk is for one of the hands") aC)
  bP)
 bN)
abbrev gD:Fn:=εI fZ
abbrev vQ:Ms:=
 (aF (aT 1 (o_ (bK [a9,a8 0] (bB (cK (aA (mC (.str "ann")) (aA (mC (.str "bob")) (aA (mC (.str "cyd")) (aA (mC (.str "dan")) (aA (mC (.str "eve")) (aA (mC (.str "fay")) (aA (mC (.str "gus")) aC))))))))) (gN 0) (aN (aB aW (mV 0) (mV 1))) (mV 0)) (e_ 0)))
 (aF (aT 2 (e_ 0))
 (aF (uB "Desk" 2 gD (aA (mV 1) (aA (β2 (aA (mV 0) aC)) aC)) 2 3 (.int 1))
 (aQ (Yw (mV 2) (e_ 1))))))
abbrev qM:Fn:=εJ vQ
abbrev OA:Str->l7 Fn:=λ(z:Str)=>if z=("Desk" : Str) then a8 vO else(λ_=>a9) z
abbrev uN:Str->l7 Fn:=λ(z:Str)=>if z=("Desk" : Str) then a8 kF else(λ_=>a9) z
abbrev vR:Str->l7 Fn:=λ(z:Str)=>if z=("Desk" : Str) then a8 sS else(λ_=>a9) z
abbrev gE:Str->l7 Fn:=λ(z:Str)=>if z=("Desk" : Str) then a8 pQ else(λ_=>a9) z
abbrev sW:Str->l7 Fn:=λ(z:Str)=>if z=("Desk" : Str) then a8 fH else(λ_=>a9) z
abbrev sX:Str->l7 Fn:=λ(z:Str)=>if z=("Desk" : Str) then a8 pY else(λ_=>a9) z
abbrev pZ:Str->l7 Fn:=λ(z:Str)=>if z=("Desk" : Str) then a8 iP else(λ_=>a9) z
abbrev xU:Ms:=
 (aF (aT 9 (bD 2 KD (aA (mV 8) (aA (mV 7) aC))))
  (aF (aT 10 (Y5 (γG (aA (mV 6) aC)) (e_ 1)))
  (aF (aT 11 (aH "do" 1 OA (mV 5) (aA (mV 9) aC)))
  (aF (dY (δ4 (onL eW) (mV 6) (aA (aX (aA (aX (aA (mV 3) (aA (mV 10) aC))) (aA (mSl (aX (aA (aX (aA (mV 3) (aA (aB xE (mV 10) (e_ 1)) aC))) aC)) kM (mP (aB xE (mV 10) (e_ 1)))) (aA (mV 9) aC)))) aC)))
  (aF (bE (oC (aN (aB rT (mV 11) (o_ (mV 6) (mUn MK (e_ 1))))) (aN (ζz (aH "seen" 0 uN (mV 5) aC) (aX (aA (aX (aA (mV 3) (aA (mV 10) aC))) aC)))))
   bN
   bP)
  (aF (bE (aN (Yw (o_ (mV 9) (e_ 0)) (mC (.str "make"))))
   (iY (o_ (mV 9)<|e_ 1) (mV 7)<|aX<|aA (mV 3)<|aA (mV 10) aC)
   bP)
  (aF (dY (hV isL (onL iW) (aH "held" 0 dM (mV 5) aC)))
  (aF (dY (hV isL (onL iW) (o_ (aH "now" 0 vR (mV 5) aC) (e_ 0))))
  (dY (δ4 (onL eW) (o_ (aH "base" 0 gE (mV 5) aC) (e_ 0)) (aA (mV 10) aC)))))))))))
abbrev KF:Ms:=
 (aF (aT 1 (bD 2 lV (aA (mV 0) (aA (e_ 0) aC))))
 (aF (aT 2 (bD 2 Cw (aA (mV 1) (aA (Y5 (e_ 1) (βC (aB F9 (mV 1) (e_ 24)) (e_ 6))) aC))))
 (aF (aT 3 (o_ (mV 2) (βC (aB F9 (mV 1) (e_ 144)) (γG (aA (mV 2) aC)))))
 (aF (aT 4 (β2 (aA (mV 2) aC)))
 (aF (aT 5 (eG "Desk" 2 iB (aA (mV 3) (aA (mV 4) aC))))
 (aF (dY (hV isL (onL iW) (mV 4)))
 (aF (aT 6 (cK aC))
 (aF (aT 7 (rV (aX (aA (mC (.str "")) (aA (e_ 0) aC))) (mC (.str "map"))))
 (aF (gP (bB (mSl (mV 0) (mP (e_ 1)) (mP (e_ 31)))) (gN 8) xU)
 (aF (aT 12 (bD 2 Az (aA (oU jX) (aA (mV 6) aC))))
 (aF (bE (oC (aN (aB rT (aH "now" 0 vR (mV 5) aC) (mV 12))) (oC (aN (aB rT (aH "told" 0 sX (mV 5) aC) (bD 1 CC (aA (mV 12) aC)))) (oC (aN (aB rT (aH "held" 0 dM (mV 5) aC) (mV 6))) (aN (ζz (aH "waiting" 0 sW (mV 5) aC) (cK aC))))))
  bN
  bP)
 (aF (bE (oC (aN (aB rT (aH "base" 0 gE (mV 5) aC) (oU jX))) (oC (aN (ζz (aH "bound" 0 pZ (mV 5) aC) (e_ 0))) (aN (mCB B5 (aA (aH "bound" 0 pZ (mV 5) aC) (aA (mC (.ty "bool")) aC))))))
  bN
  bP)
 (aQ (Bu (bD 1 qM (aA (mV 2) aC)) (Ig (ζz (mV 6) (cK aC)) (Yw (aH "seen" 0 uN (mV 5) aC) (aX aC)))))))))))))))))
abbrev KG:Fn:=mFn 13 KF
end
abbrev mMe(m:Str)(n:Nat)(tb:Str->l7 Fn)(ms:Ma)(δ:Ev)(x:PV)(h:PH):Yv 0:=match gU x h with
 |some (_,c,fs)=>match tb c,fs.lookup m with
  |some f,a9=>(Yh h).bind λps h2=>if ps.l=n then f (x::ps) h2 else .bad
  |_,_=>.bad
 |none=>.bad
variable{h:PH}{mo:Me}{ms:Ma}{n:Nat}{tb:Str->l7 Fn}{δ:Ev}
def mM{m:Str}:aH m n tb mo ms δ h=(εF h).bind (mMe m n tb ms δ):=rfl
def mMx(m){k:Nat}{c:Str}{fs:k_ (Str×PV)}(g:h[k]?=a8 (.ins c fs))(l:fs.lookup m=a9)(n)(t)(ms)(δ):mMe m n t ms δ (.ref k) h=match t c with
 |some f=>(Yh h).bind λp H=>if p.l=n then f (.ref k::p) H else .bad
 |none=>.bad:=by
 unfold mMe;rw[tZ g];simp[l];cases t c <;> rfl
@[reducible]def Seen:=k_<|Str×Int
abbrev look:Seen->Str->Yd 0
 |[],_=>a9
 |p::r,h=>if p.1=h then a8 p.2 else look r h
abbrev emb(kvs:Seen):k_ (Key×PV):=kvs.map λp=>(.inr p.1,.int p.2)
abbrev row(p:Str×Int):γ7 0:=[.inr p.1,.inl p.2]
abbrev sv(S:Seen):PV:=.tup<|S.map λp=>.tup [.str p.1,.int p.2]
@[reducible]def DY:Str:="abcdefghijklmnopqrstuvwxyz"
def Tj:DY.cps.toList.l=26:=by decide +kernel
def BO:DY.l=26:=by decide +kernel
def KH:∀i:Fin 26,DY.cps.toList[i.val]?=a8 (97+i.val):=by decide +kernel
variable{c:Nat}
def KI{x:Str}:(x++(⟨#[c]⟩:Str)).length=x.l+1:=by rw[Str.length_append];rfl
def GK{i:Int}(h:0<=i)(h1:i<26):atI DY.cps.toList i=a8 (97+i.toNat):=by rw[N1 h<|by assumption];show KH ⟨i.toNat,⋯⟩
def app_list(x y:Str):(x++y).cps.toList=x.cps.toList++y.cps.toList:=PySem.W.KT.app_list x y
abbrev pv(p:Str×Int):PV:=.tup [.str p.1,.int p.2]
def sY{p q:Str×Int}(h:pv p=pv q):p=q:=by let(a,b):=p;simp[pv]at h;simp[h]
def OB(S:Seen):sv S=.tup (S.map pv):=rfl
variable{j:Int}
def DZ{z:Str}(H:0<=j)(h1:j<=z.l):(δ6<|a8 j).cps.toList=z.cps.toList.take j.toNat:=by let e:δ6 _=⟨((z.cps.toList.drop 0).take (j-0).toNat).toArray⟩:=StrLaws.sliceText_to ⟨H,(by assumption)⟩;rw[e];simp
def FG{z:Str}(H:0<=j)(h1:j<=z.l):(Vl z (a8 j) a9).cps.toList=z.cps.toList.drop j.toNat:=by let E:Vl z _ a9=_:=StrLaws.sliceText_from ⟨H,(by assumption)⟩;rw[E];rw[List.take_of_length_le];rw[List.length_drop];omega
def len_list(z:Str):z.cps.toList.l=z.l:=by simp[Xn]
def GL{hX:PH}{o:MO}(x:t_ hX):t_ (hX.set h.l o):=λn O e=>by let H:=(Y7 0).1;rw[ym ⋯];show x n O e
abbrev cell(ns:YV 0)(i:Nat):Int:=γx 0
open H in
def NH(ns)(i:Nat)(h):lV [.fl<|ns.map PV.int,.int i] h=.ok (.int<|cell ns i) h:=by
 let w:(lV [.fl<|ns.map PV.int,.int i] h).W λp H=>p=.int (cell ns i)/\H=h:=by
  show W_fn ?_;simp[vH,aD];split
  ·let e:atI (ζu 0) (i)=b0 (cell ns i):=hQ (by simp[cell,⋯]);simp[e]
  ·rfl';have:ns.l<=i:=⋯;simp[cell,this]
 let(p,H,(e),z0,z1):=cU w;subst z0;subst z1;show e
inductive Kd where
 |settle
 |back (f l:Int)
 |other
deriving DecidableEq
@[reducible]def Hk:=Int×Kd
abbrev UW(b:Hk)(n:Int):Bool:=match b.2 with
 |.back f l=>decide (f<=n/\n<=l)
 |_=>false
abbrev hit(n:Int)(B:k_ Hk):l7 Hk:=B.find? λb=>UW b n
section
variable{α:Type}[DecidableEq α]
abbrev run:k_ (α×Hk)->(α->k_ Hk)->k_ (α×Hk×Hk)
 |[],_=>[]
 |d::L,B=>match d.2.2,hit d.2.1 (B d.1) with
  |.settle,_=>run L λh=>if h=d.1 then[] else B h
  |_,a8 b=>(d.1,d.2,b)::run L B
  |.back _ _,a9=>run L λh=>if h=d.1 then B h++[d.2] else B h
  |.other,a9=>run L B
end
structure Dd where
 nm:Str×Int
 seen:Seen
 kd:Kd
 act:k_ PV
abbrev dP(d:Dd):PV:=.tup [ZH 0,γg 0,.tup d.act]
abbrev word:Kd->Str
 |.settle=>"settle"
 |.back _ _=>"back"
 |.other=>"other"
abbrev WfA:Kd->E_ 0->Prop
 |.settle,a=>a=[.str "settle"]
 |.back f l,a=>a=[.str "back",.int f,.int l]
 |.other,a=>∃w r,a=.str w::r/\w≠"settle" /\ w≠"back"
structure Wf(d:Dd):Prop where
 len:d.seen.l<=100
 act:WfA d.kd d.act
 pl:d.act.all (PV.pl 37)=true
abbrev hdD(d:Dd):Hk:=(d.nm.2,d.kd)
abbrev tot(S:Seen):Int:=(S.map (·.2)).sum
abbrev kyL(d:Dd):γ7 0:=[.inl<|1+tot d.seen,.inr d.nm.1,.inl d.nm.2]
def dP0{d:Dd}:vIx (dP d) (.int 0) h=.ok (ZH 0) h:=by unfold dP;simp
def dP1{d:Dd}:vIx (dP d) (.int 1) h=.ok (γg 0) h:=by unfold dP;simp
def dP2{d:Dd}:vIx (dP d) (.int 2) h=.ok (.tup d.act) h:=by unfold dP;simp
def pv0{p:Str×Int}:vIx (pv p) (.int 0) h=.ok (.str p.1) h:=by unfold pv;simp
def pv1{p:Str×Int}:vIx (pv p) (.int 1) h=.ok (.int p.2) h:=by unfold pv;simp
def Tn{p:Str×Int}:(PV.tup [.str p.1,.int p.2]).ky 6=true:=rfl
def E1(d)(S:d.seen.l<=100)(h)(Q)(k:∀H,t_ H->Q (.int<|1+tot d.seen) H):(xT [dP d] h).W Q:=by
 show W_fn ?_;let c:=Im (js:=[a9]) (tg:=gN 0) (tst:=dU) (elt:=o_ (mV 0)<|e_ 1) (m:=o_ (mV 0)<|e_ 1) (δ:=[a8<|dP d]) (h:=h) (h1:=h) (ys:=d.seen) (emb:=pv)
  (λq=>b0 q.2) (by simp[dP1,OB]) ⋯ (λq y=>(A0 rfl λz _=>⟨rfl,by simp[eE,pv1]⟩))
 let e:d.seen.filterMap (λq=>a8<|PV.int q.2)=(d.seen.map (·.2)).map PV.int:=by rw[filterMap_some,w9];rfl
 rw[e]at c;change (xS [a8 _] h).W _;unfold xS;rw[jT,xJ,zH,Rs.bind_ok,Q5,dC,c];simp only[Rs.bind_ok,MX,JO aE,Bw,iX];show k _<|Ext.app _ _
def NI(d)(S:d.seen.l<=100)(h)(Q)(k:∀H,t_ H->Q (tP<|kyL d) H):(FC [dP d] h).W Q:=by show W_fn ?_;unfold FB;rw[aD];simp[dP0];show([a8<|dP d,a8<|.str d.nm.1,b0 d.nm.2],by simp[pv],?_);rfl';simp;show E1 d S _ _ λH x=>?_;show k H x
abbrev ent(d:Dd):PV×PV:=(ZH 0,dP d)
def E2(p):∀s:k_ Dd,(aS (s.map ent)<|pv p).isSome=true↔p∈s.map (·.nm)
 |[]=>by simp[aS]
 |d::s=>by
  rw[wq,wq,v8]
  change(aS ((ZH 0,dP d)::s.map ent) _).isSome=true↔_
  unfold aS;by_cases e:d.nm=p
  ·rw[if_pos<|by rw[e]];simp[e]
  ·rw[if_neg<|λz=>e<|sY z,E2 p s];constructor
   ·show .inr
   ·rintro(z|z)
    ·show(e z.symm).elim
    ·show z
variable{es:k_ Dd}
def GM{d:Dd}(u:∀x∈es,x.nm=d.nm->x=d):dW (es.map ent) (ZH 0) (dP d)=(if d.nm∈es.map (·.nm) then es else es++[d]).map ent:=by
 unfold dW;let h:=E2 d.nm es;by_cases e:d.nm∈es.map (·.nm)
 ·rw[αU 0,if_pos<|h.mpr e,w9];apply y4;intro x H
  change(if(ent x).1=ZH 0 then _ else ent x)=ent x
  by_cases z:(ent x).1=ZH 0
  ·rw[β6 0];have:=u x H<|sY z;subst this;rfl
  ·rw[γN 0]
 ·rw[Z4 0,if_neg<|λz=>e<|h.mp z,yo];rfl
def NJ(xs:k_ Dd):zS (xs.map kyL)=true:=by
 cases xs with
 |nil=>rfl
 |cons a r=>rw[wq];unfold zS;rw[wy];show(rfl,we.mpr λz h=>?_);let(q,_,rfl):=v7.mp h;rfl
def E3{β:Type}(f:Dd->β)(H:∀a b,f a=f b->a.nm=b.nm):∀{xs:k_ Dd},(xs.map (·.nm)).Nodup->(xs.map f).Nodup:=λ{xs} h=>by unfold List.Nodup at*;rw[yy] at*;show h.imp λn e=>n<|H _ _ e
def KJ(a b)(e:kyL a=kyL b):a.nm=b.nm:=by unfold kyL at e;simp at e;show Prod.ext e.2.1 e.2.2
@[reducible]def CD(os:k_ Dd):Prop:=os.Pairwise<|λa b=>rN (kyL b) (kyL a)=false
open H in
def CF(U D:k_ Dd)(F:∀d∈D,d∈U)(hlU:U.l<=63)(hw:∀d∈D,Wf d)(hl:D.l<=1000)(Y:∀d∈D,∀e∈D,d.nm=e.nm->d=e)(n)(h)(g:h[n]?=a8 (.lst<|D.map dP))(Q)
  (k:∀O l H,t_ H->h.l<=l->H[l]?=a8 (.lst<|O.map dP)->(O.map (·.nm)).Nodup->(∀d,d∈O↔d∈D)->CD O->Q (.ref l) H):(fS [.ref n] h).W Q:=by
 show W_fn ?_;unfold rZ;rw[aD];simp;let R:t_ (h++[MO.dK []]):=m_ _;let G:aV (h++[MO.dK []]) _=a8 (([]:k_ Dd).map ent):=jV aE;rfl';rw[aD];show oM (λq r H=>∃s,t_ H/\aV H _=a8 (s.map ent)/\(s.map (·.nm)).Nodup/\(∀d,d∈s↔d∈D.take q)/\s.l<=q/\∃Z,r=[a8 _,a_ _,Z]) (by simp) (R _ _ g) ⟨[],R,G,by simp,by simp,by simp,_,rfl⟩ ?_ ?_ ?_
 ·rintro q r H hq ⟨s,x,_⟩;show YY g
 ·rintro q y r H V ⟨s,x,t,N,m,le,Z,rfl⟩;rw[wm]at V;let(d,w,rfl):=w8.mp V;let hq':=(vg.mp w).1;let T:D.take (q+1)=D.take q++[d]:=by rw[Xp,w];rfl
  let i:=xw w;let v:=λe f=>List.mem_of_mem_take<|(m e).mp f;show A0 rfl ?_;let P:B6 (.ref _) (ZH 0) (dP d) H=a8 (H.set _<|.dD<|dW _ (ZH 0) _):=K2 t Tn (by rw[vn];omega);rw[GM λe f z=>Y e (v e f) d i z]at P;let C:∃o,H[h.length]?=a8 o:=let ⟨o,g,_⟩:=gR t;⟨o,g⟩;let(o,u):=C;unfold nF;simp[dP0];show(_,P,GL x,_,eY<|aR u,?_,?_,?_)
  ·split
   ·show N
   ·rename_i z;rw[yo,zq];show(N,by simp,λa A b B e=>?_);rw[List.map_singleton,vx]at B;subst B e;show z<|d0 A
  ·intro e;rw[T];split
   ·rename_i z;rw[m e,xj,vx];constructor
    ·show .inl
    ·rintro(z'|rfl)
     ·show z'
     ·let(j,E,K):=v7.mp (show e.nm∈s.map _ by simpa using z)
      have:=Y j (v j E) e i K;subst this;show(m j).mp E
   ·rw[xj,xj,m e]
  ·split
   ·omega
   ·simp;omega
 ·rintro r H ⟨s,x,t,N,m,le,Z,rfl⟩;let hle:s.l<=63:=by
   let J:(s.map _).length<=(U.map _).length:=List.Nodup.length_le_of_subset N λp P=>by let(d,w,rfl):=v7.mp P;show v7.mpr ⟨d,F d<|List.mem_of_mem_take<|(m d).mp w,rfl⟩
   simp at J;omega
  let(o,(u),c,_):=gR t;rfl';simp[c,Gz t];let X:Ext H (H++[δ7 h.length]):=m_ _;let I:fQ (.ref H.l) (H++[δ7 h.length])=a8 (s.map dP):=by rw[DD aE<|DC X t,w9];rfl
  generalize H++[δ7 _]=h2 at X I;let M:∀d,d∈s↔d∈D:=λd=>by rw[m d,vn,Xx]
  show xP (S:=shape [.inl 0,.inr "",.inl 0]) I ⋯ (NJ s) (λ_ _=>rfl) (E3 kyL KJ N) (λd w h Q kk=>NI d (hw d<|(M d).mp w).len h Q kk) λO h3 L P u=>?_;show k O _ _ ((x.trans X).trans<|L.trans<|Ext.app _ _) (vz x.len<|vz X.len L.len) aE ((P.map _).nodup_iff.mpr N) (λd=>(P.mem_iff).trans<|M d) u
abbrev lk{β:Type}:k_ (Str×β)->Str->l7 β
 |[],_=>a9
 |p::r,w=>if p.1=w then a8 p.2 else lk r w
abbrev em{β:Type}(f:β->PV)(R:k_ (Str×β)):k_ (Key×PV):=R.map λp=>(.inr p.1,f p.2)
abbrev nmL(d:Dd):γ7 0:=[.inr d.nm.1,.inl d.nm.2]
def NK(xs:k_ Dd):zS (xs.map nmL)=true:=by
 cases xs with
 |nil=>rfl
 |cons a r=>rw[wq];unfold zS;rw[wy];show(rfl,we.mpr λz h=>?_);let(q,_,rfl):=v7.mp h;rfl
def QG(a b)(e:nmL a=nmL b):a.nm=b.nm:=by unfold nmL at e;simp at e;show Prod.ext e.1 e.2
def NL(d)(h)(Q)(k:Q (ZH 0) h):(qK [dP d] h).W Q:=by show W_fn ?_;simp[vK,dP0];show k
@[reducible]def Nm:=Str×Int
@[reducible]def root:Nm:=("",0)
abbrev fnd{β:Type}:k_ (Nm×β)->Nm->l7 β
 |[],_=>a9
 |x::M,p=>if x.1=p then a8 x.2 else fnd M p
def E4{β:Type}(x:Nm×β)(M)(p):fnd (x::M) p=if x.1=p then a8 x.2 else fnd M p:=rfl
abbrev dX{β:Type}(f:β->PV)(x:Nm×β):PV×PV:=(pv x.1,f x.2)
abbrev sZ{β:Type}(M:k_ (Nm×β))(p:Nm)(r:β):k_ (Nm×β):=if(ζA p).isSome then M.map (λx=>if x.1=p then(x.1,r) else x) else M++[(p,r)]
variable{p:Nm}
def E5:(pv p).pl (n+1)=true:=by cases n <;> rfl
def qA{β:Type}(f:β->PV)(p:Nm):∀M,aS (M.map<|dX f) (pv p)=(ζA p).map f
 |[]=>rfl
 |x::M=>by
  change aS ((pv x.1,f x.2)::M.map _) _=_
  unfold aS fnd;by_cases e:x.1=p
  ·rw[if_pos<|by rw[e],αU 0];rfl
  ·rw[if_neg<|λz=>e<|sY z,Z4 0,qA f p M]
def AD{β:Type}(f)(M)(p:Nm)(r:β):dW (M.map<|dX f) (pv p) (f r)=(sZ M p r).map (dX f):=by
 unfold dW sZ;rw[qA];cases e:ζA p with
 |none=>simp[dX]
 |some z=>
  simp only[Option.isSome_some,if_true,w9];apply y4;intro x _
  change(if pv x.1=pv p then _ else dX f x)=dX f (if x.1=p then _ else x)
  by_cases e:x.1=p
  ·rw[if_pos<|show pv x.1=pv p by rw[e],αU 0];rfl
  ·rw[if_neg<|λz=>e<|sY z,Z4 0]
def NM{β:Type}(M)(p)(r:β)(q):fnd (M.map λx=>if x.1=p then(x.1,r) else x) q=if q=p then(ζA p).map (λ_=>r) else ζA q:=by
 induction M with
 |nil=>simp[fnd]
 |cons x M i=>
  rw[wq];unfold fnd;rw[i];by_cases H:x.1=p
  ·rw[βf 0];by_cases h:q=p
   ·rw[if_pos<|show x.1=q by rw[H,h],αR 0,βf 0];rfl
   ·let y:¬ x.1=q:=λz=>h<|z▸H;rw[if_neg<|y,ZU 0,ZU 0,if_neg y]
  ·rw[γM 0];by_cases h:q=p
   ·rw[if_neg<|λz=>H<|z.trans h,αR 0,αR 0,γM 0]
   ·rw[ZU 0,ZU 0]
def GN{β:Type}(M N:k_ (Nm×β))(q):fnd (M++N) q=(ζA q).or (fnd N q):=by
 induction M with
 |nil=>simp[fnd]
 |cons x M i=>
  rw[List.cons_append,E4,E4];by_cases h:x.1=q
  ·rw[αR 0,αR 0];rfl
  ·rw[ZU 0,ZU 0,i]
def KL{β:Type}(M)(p)(r:β)(q):fnd (sZ M p r) q=if q=p then a8 r else fnd M q:=by
 unfold sZ;cases e:ζA p with
 |some z=>simp;rw[NM,e];rfl
 |none=>
  simp;rw[GN];by_cases h:q=p
  ·rw[αR 0,h,e];simp[fnd]
  ·rw[ZU 0];have:fnd [(p,r)] q=a9:=by unfold fnd;rw[if_neg<|λz=>h z.symm];rfl
   rw[this];cases fnd M q <;> rfl
def CG{β:Type}{M:k_ (Nm×β)}{r:β}(h:ζA p=a8 r):(p,r)∈M:=by
 induction M with
 |nil=>cases h
 |cons x M i=>
  unfold fnd at h;by_cases e:x.1=p
  ·rw[αU 0]at h;cases h
   rw[<-e];show vo
  ·rw[Z4 0]at h;show εs<|i h
def xV{β:Type}{M:k_ (Nm×β)}:(ζA p).isSome=true↔p∈M.map (·.1):=by
 induction M with
 |nil=>simp[fnd]
 |cons x M i=>
  unfold fnd;by_cases e:x.1=p
  ·rw[αU 0];simp[e]
  ·rw[Z4 0,i,wq,v8];show(.inr,λz=>z.resolve_left λq=>e q.symm)
def IH{β:Type}(M)(p)(r:β):(sZ M p r).map (·.1)=if p∈M.map (·.1) then M.map (·.1) else M.map (·.1)++[p]:=by
 unfold sZ;by_cases e:(ζA p).isSome=true
 ·rw[αU 0,if_pos<|xV.mp e,w9];apply y4;intro x _
  change(if x.1=p then _ else x).1=x.1
  split <;> rfl
 ·rw[Z4 0,if_neg<|λz=>e<|xV.mpr z,yo];rfl
def KM{β:Type}(M)(p)(r:β):(sZ M p r).length<=M.l+1:=by
 unfold sZ;split
 ·rw[vn];omega
 ·simp
variable{kvs:k_ (PV×PV)}{xs:E_ 0}
def KN{p:PV}(e:Zr n=εR 0)(k:(α2 0).ky 6=true)(l:Zf (.tup xs)=a8 p):vAt (.ref n) (.tup xs) h=.ok p h:=by
 let K:(α2 0).isKt=true:=k;have:qS (.tup xs) (.ref n) h=a8 (Zf<|.tup xs):=by simp[qS,K,e]
 unfold vAt;rw[this,l]
abbrev Tb(h:PH)(n c:Nat)(f:Nm->l7 PV):Prop:=∃E:k_ (Nm×PV),Zr n=a8 (E.map<|dX id)/\E.l<=c/\(E.map (·.1)).Nodup/\∀x,fnd E x=f x
abbrev upN(f:Nm->l7 PV)(x:Nm)(v:PV):Nm->l7 PV:=λy=>if y=x then a8 v else f y
variable{h':PH}
def bF(t:Zr n=εR 0)(k:∀o,h[n]?=a8 o->h'[n]?=a8 o):aV h' n=εR 0:=by let(o,(O),_,H):=gR t;show H _<|k o O
def Tb.nil(e:h[n]?=a8 (.dK [])):Tb h n 0 λ_=>a9:=I1d [] (jV e) (vk _) W6 λ_=>rfl
def Tb.keep{f:Nm->l7 PV}(t:ζB f)(k:∀o,h[n]?=a8 o->h'[n]?=a8 o):Tb h' n c f:=by obtain ⟨E,a,b⟩:=t;exact (I1b E (bF a k) b)
def Tb.ext{f:Nm->l7 PV}(t:ζB f)(x:t_ h'):Tb h' n c f:=t.keep λo e=>YY e
variable{x:Nm}
def Tb.at'{f:Nm->l7 PV}(t:ζB f){v:PV}(q:f x=a8 v):vAt (.ref n) (pv x) h=.ok v h:=by let(E,(a),_,_,e):=t;show KN a rfl (by change aS _ (pv x)=_;rw[qA,e,q];rfl)
open H in
def NN{β:Type}{M:k_ (Nm×β)}{r:β}(h:(M.map (·.1)).Nodup):((sZ M p r).map (·.1)).Nodup:=by
 rw[IH];split
 ·show h
 ·rename_i c;rw[zq];show(h,by simp,λa H b B e=>c (by rw[vx.mp B]at e;show e▸H))
def Tb.put{f:Nm->l7 PV}(t:ζB f)(C:c<=1000)(x:Nm)(v):∃o,gW (.ref n) (pv x) v h=a8 (P_ o)/\Tb (P_ o) n (c+1) (upN f x v):=by let(E,(a),b,d,e):=t;let(o,(H),_):=gR a;let p:gW _ (pv x) v h=a8 (P_<|.dD<|dW _ (pv x)<|id v):=jW a rfl (by rw[vn];omega);rw[AD]at p;show(_,p,sZ E x v,eY<|aR H,vz (KM _ _ _) ⋯,NN d,λy=>?_);rw[KL,e];rfl
def QH(u v:Z5 0)(x:Nat):(u++[x]++v)[u.length]?=a8 x:=by simp
def UX{α:Type}{xs:k_ α}:fP xs (a8 1) a9=xs.tail:=by
 unfold fP HT.sIx;cases xs with
 |nil=>rfl
 |cons a r=>simp
abbrev XI(c many:Int)(h:PH)(q:Nat)(δ:Ev)(h':PH):Prop:=∃(xs:YV 0)(n:Int),t_ h'/\h'[h.length]?=a8 (.lst<|xs.map PV.int)/\xs.l=q/\(∀x∈xs,0<=x/\x<2147483647)/\0<=n/\n<2147531918/\∃x4,δ=[b0 c,b0 many,δk 0,b0 n,x4]
def BP(c)(m)(M:m<=100)(h)(Q)(k:∀(s:YV 0) l y,t_ y->h.l<=l->y[l]?=a8 (.lst<|s.map PV.int)->s.l=m->(∀x∈s,0<=x/\x<2147483647)->Q (.ref l) y):(uD [.int c,.int m] h).W Q:=by
 show W_fn ?_;unfold Al;rw[aD];simp;rfl';rw[aD];simp;let N:0<=c%2147483647+48271/\c%2147483647+48271<2147531918:=⋯;generalize c%2147483647+48271=n0 at N;rfl';rw[aD];show Q7 (j:=(m)+1) (XI c m h) ?_ ⋯ ⟨[],n0,(m_ _),aE,rfl,(λx X=>by cases X),N.1,N.2,_,rfl⟩ ?_ ?_
 ·simp
 ·rintro i t y I ⟨s,n,x,g,L,b,w,v,u,rfl⟩;unfold rY;rw[aD];simp(disch:=omega);let B:0<=(n*n+48271*n+(i))%2147483647/\(n*n+48271*n+(i))%2147483647<2147483647:=⟨Int.emod_nonneg _ ⋯,Int.emod_lt_of_pos _ ⋯⟩;generalize (n*n+48271*n+(i))%2147483647=n' at B;rfl';let a:=mS (p:=.int n') g (by rw[vn];omega);rw[show s.map _++[.int n']=(s++[n']).map PV.int by simp]at a;simp[iL g];rw[a,iX];show(s++[n'],n',GL x,aR g,by simp[L],λz H=>?_,B.1,⋯,_,rfl);rcases xj.mp H with H|H
  ·show b z H
  ·rw[vx.mp H];show B
 ·rintro t y ⟨s,n,x,g,L,b,w,v,u,rfl⟩;rfl';simp[Gu g,UX];rw[<-List.map_tail];show q7 _ (x.trans<|Ext.app _ _) x.len aE (by rw[List.length_tail,L];omega) λz H=>b z<|List.mem_of_mem_tail H
def KO(s):(Builtin.Str.glued "" s).length=(s.map Xn).sum:=by
 let e:(v3 "").cps=#[]:=rfl;let k:∀(s:S2 0)(a),((s.foldl (λa p=>a++(v3 "").cps++p.cps) a).size)=a.size+(s.map Xn).sum:=by
  intro s
  induction s with
  |nil=>intro a;simp
  |cons z s i=>intro a;rw[List.foldl_cons,i,e];simp[Xn];omega
 change((s.drop 1).foldl (λa p=>a++(v3 "").cps++p.cps) (s.headD _).cps).size=_
 rw[k];cases s with
 |nil=>rfl
 |cons z s=>simp[Xn]
def KQ(s):Ng "" s=(s.map Xn).sum:=by
 unfold Ng;let k:∀(s:S2 0)(n),s.foldl (λa p=>a+p.l+("" : Str).length) n=n+(s.map Xn).sum:=by
  intro s
  induction s with
  |nil=>intro n;simp
  |cons z s i=>intro n;rw[List.foldl_cons,i,wq,List.sum_cons];have:("" : Str).length=0:=rfl;omega
 rw[List.foldl_toArray];rw[k];omega
def GO:∀s,Aa (s.map PV.str)=a8 s
 |[]=>rfl
 |z::s=>by rw[wq];unfold Aa;rw[GO s];rfl
variable{zs:S2 0}
def NO(g:h[n]?=a8 (.lst<|zs.map PV.str))(h1:∀z∈zs,z.l=1)(v:2<=zs.l)(x:zs.l<=1000):∃w,Ab (.str "") [.ref n] h=.ok (.str w) h/\w.l=zs.l:=by
 let s:(zs.map Xn).sum=zs.l:=by
  clear g v x
  induction zs with
  |nil=>rfl
  |cons z zs i=>rw[wq,List.sum_cons,h1 z vo,i λy Y=>h1 y (εs Y),yz];omega
 let e:jnd "" zs=Builtin.Str.glued "" zs:=by
  match zs,v with
  |_::_::_,_=>rfl
 let H:(jnd "" zs).length=zs.l:=by rw[e,KO,s]
 show I1b (jnd "" zs) ?_ H;let l:cD h n=a8 (zs.map PV.str):=by simp[cD,g]
 let Z:(zs.l<=wa):=by rw[tV];omega
 unfold Ab;simp only[l,GO];rw[if_pos ⟨by rw[KQ,s];show Z,by rw[H];show Z⟩]
def UY{α:Type}{xs:k_ α}:fP xs a9 (a8 8)=xs.take 8:=by unfold fP HT.sIx;simp
def qN{z:Str}(h:0<=j)(h1:j<=z.l):(δ6<|a8 j).length=j.toNat:=by rw[<-len_list,DZ h h1,zm];show Nat.min_eq_left<|Int.toNat_le.mpr h1
variable{i:Nat}
def FH{xs:YV 0}(h):atI (xs.map PV.int) (i)=a8 (.int xs[i]):=hQ (by simp[h])
variable{b:Nat}
def OC{a:Nat}{x:Int}(h1:a<b)(h:b-a<n):(x+(a))%(n)≠(x+(b))%(n):=λe=>by let z:=Int.emod_eq_emod_iff_emod_sub_eq_zero.mp e.symm;rw[Int.add_sub_add_left,<-Int.ofNat_sub (yw h1)]at z;let Z:(b-a)%n=0:=Int.ofNat_inj.mp z;rw[Nat.mod_eq_of_lt h]at Z;show absurd Z<|Io<|Nat.sub_pos_of_lt h1
def KR(h:0<n)(x:Int):0<=x%(n)/\x%(n)<n:=⟨Int.emod_nonneg _<|Int.ofNat_ne_zero.mpr<|Io h,Int.emod_lt_of_pos _<|Int.natCast_pos.mpr h⟩
def KS(c:Int)(m:Nat)(H:m<=6)(h:PH)(Q:PV->PH->Prop)(k:∀(C:S2 0)(l:Nat)(U:PH),U[l]?=a8 (.lst<|C.map PV.str)->C.l=m->C.Nodup->Q (.ref l) U):(Cw [.int c,.int m] h).W Q:=by
 show W_fn ?_;unfold Cv;rw[aD];simp;rfl';rw[aD];simp;show BP c 10 ⋯ h _ λq f A xA _ V s X=>?_
 try simp
 rfl';rw[aD]
 -- the stem
 let p:=Gu (lo:=a9) (hi:=a8 8) V;rw[UY,<-List.map_take]at p;let G:(A++[MO.lst<|(εo 0).map PV.int])[A.length]?=a8 (.lst<|(εo 0).map PV.int):=aE;let U:Ext A (A++[MO.lst<|(εo 0).map PV.int]):=m_ _;generalize A.l=lb at p G;generalize A++[MO.lst<|(εo 0).map PV.int]=hB at p G U;let Y:=cP (js:=[a9,a8 2]) (tg:=gN 0) (tst:=dU) (elt:=o_ (mV 1)<|aB dS (mV 0)<|e_ 26) (m:=mSl (mV 3) kM<|mP<|e_ 8) (δ:=[b0 c,b0 m,a8<|.str DY,a_ f,a9,a9]) (h:=A) (h1:=hB) (n:=lb) (ys:=εo 0) (emb:=PV.int)
  (λx=>a8 (.str ⟨#[97+(x%26).toNat]⟩)) (by simp[p]) G (by rw[zm];omega) (λx G=>⟨_,rfl,λH _=>⟨rfl,by
   let hl:=GK (i:=x%26) ⋯ ⋯;let hv:vIx (.str DY) (.int<|x%26) H=.ok (.str ⟨#[97+(x%26).toNat]⟩) H:=by rw[N0 (by rw[BO];omega),hl];rfl
   simp(disch:=omega) [eE,hv]⟩⟩)
 let T:(εo 0).filterMap (λx=>a8<|PV.str ⟨#[97+(x%26).toNat]⟩)=((εo 0).map λx=>(⟨#[97+(x%26).toNat]⟩:Str)).map PV.str:=by rw[filterMap_some,w9];rfl
 rw[T]at Y;let o:∀z∈(εo 0).map (λx=>(⟨#[97+(x%26).toNat]⟩:Str)),z.l=1:=λz hz=>by let(x,_,rfl):=v7.mp hz;rfl
 let d:((εo 0).map λx=>(⟨#[97+(x%26).toNat]⟩:Str)).length=8:=by rw[vn,zm];omega
 generalize (εo 0).map (λx=>(⟨#[97+(x%26).toNat]⟩:Str))=zs at Y o d;let C:(hB++[MO.lst<|zs.map PV.str])[hB.length]?=a8 (.lst<|zs.map PV.str):=aE;let B:Ext hB (hB++[MO.lst<|zs.map PV.str]):=m_ _;generalize hB.l=lc at Y C;generalize hB++[MO.lst<|zs.map PV.str]=hC at Y C B;let(w,(S),lw):=NO C o ⋯ ⋯;let u:Nh (.str ("" : Str)) A=true:=rfl;simp[u,Y,S];let g:hC[f]?=a8 (.lst<|q.map PV.int):=B _ _<|U _ _ V;let v:atI (q.map PV.int) 8=a8 (.int q[8]):=FH (i:=8) ⋯;let u:atI (q.map PV.int) 9=a8 (.int q[9]):=FH (i:=9) ⋯;let p:=X q[8]<|VL _;let o:=X q[9]<|VL _;generalize q[8]=x8 at v p;generalize q[9]=x9 at u o;rfl';rw[aD];simp(disch:=omega);split
 ·let l:=Dt (js:=[a9,a8 4,a8 3]) (tg:=gN 0) (tst:=dU) (elt:=mSl (mV 1) kM<|mP<|aB aU (e_ 1)<|aB dS (Y5 (mV 0)<|aB vAt (mV 2)<|e_ 8)<|e_ 8) (ms:=aA (mV 1) aC)
   (δ:=[b0 c,b0 m,a8<|.str DY,a_ f,a8<|.str w,a9]) (h:=hC) (h1:=hC) (j:=m) (λi=>a8<|.str<|Vl w a9<|a8<|1+((i:Int)+x8)%8) (by simp) ⋯
   (λi hi=>(A0 rfl λH G=>⟨rfl,by simp(disch:=omega) [eE,bC<|G _ _ g,v]⟩))
  simp[l];have:=k ((xf m).map λ(i:Nat)=>Vl w a9 (a8 (1+((i:Int)+x8)%8))) hC.l (hC++[.lst (((xf m).map λ(i:Nat)=>Vl w a9 (a8 (1+((i:Int)+x8)%8))).map PV.str)]) aE (by simp) (by
   unfold List.Nodup;rw[yy];show(List.pairwise_lt_range (n:=m)).imp_of_mem λ{a b} s y B e=>?_;let Z:=Wi.mp y;let q:=Wi.mp s;let E:=congrArg Xn e;let r:∀i:Nat,(0:Int)<=1+((i:Int)+x8)%8/\1+((i:Int)+x8)%8<=w.l:=λi=>by let(V,X):=KR (n:=8) (by decide)<|(i:Int)+x8;rw[lw,d];show(Int.add_nonneg (by decide) V,Int.add_comm _ _▸X)
   rw[qN (r a).1 (r a).2,qN (r b).1 (r b).2]at E;let d:=Int.add_left_cancel ((Xz (r a).1).symm.trans ((congrArg Int.ofNat E).trans (Xz (r b).1)));rw[Int.add_comm (a:Int),Int.add_comm (b:Int)]at d;show OC (n:=8) B (y3 (βx _) (wb Z (vz H (by decide)))) d)
  rw[w9]at this;show this
 ·rfl';rw[aD];simp(disch:=omega) [bC g,v];let T:=qN (z:=w) (j:=1+x8%8) ⋯ ⋯;generalize Vl w a9 (a8<|1+x8%8)=z at T;let S:0<z.l/\z.l<=8:=by let(V,X):=KR (n:=8) (by decide) x8;rw[T];show(Int.lt_toNat.mpr<|Int.add_pos_of_pos_of_nonneg (by decide) V,Int.toNat_le.mpr<|Int.add_comm _ _▸X)
  clear T lw d o p v;rfl';rw[aD];simp(disch:=omega) [bC g,u];let t:0<=x9%(z.l:Int)/\x9%(z.l:Int)<z.l:=KR S.1 _;generalize x9%(z.l:Int)=at' at t;let V:=qN (z:=z) t.1<|Int.le_of_lt t.2;let v:=FG (z:=z) (j:=at'+1) (Int.add_nonneg t.1<|by decide) t.2;let X:(Vl z (a8<|at'+1) a9).length=z.l-(at'+1).toNat:=by rw[<-len_list,v,List.length_drop,len_list]
  let lA:(δ6<|a8 at').length<=8:=by rw[V];show vz (Int.toNat_le.mpr<|Int.le_of_lt t.2) S.2
  let lB:(Vl z (a8<|at'+1) a9).length<=8:=by rw[X];show vz (βx _) S.2
  let l:=Dt (js:=[a9,a8 4,a8 2,a8 5,a8 3]) (tg:=gN 0) (tst:=dU) (elt:=Y5 (Y5 (mSl (mV 1) kM<|mP<|mV 3)<|aB vAt (mV 2)<|aB dS (Y5 (aB F9 (o_ (mV 4)<|mC<|PV.int 9)<|mC<|PV.int 8)<|aB B3 (mC<|PV.int 5)<|mV 0)<|mC<|PV.int 26)<|mSl (mV 1) (mP<|aB aU (mV 3)<|mC<|PV.int 1) kM) (ms:=aA (mV 1) aC)
   (δ:=[b0 c,b0 m,a8<|.str DY,a_ f,a8<|.str z,b0 at']) (h:=hC) (h1:=hC) (j:=m) (λi=>a8<|.str<|Vl z a9 (a8 at')++(⟨#[97+((x9/8+5*(i:Int))%26).toNat]⟩:Str)++Vl z (a8<|at'+1) a9) (by simp) ⋯
   (λi hi=>⟨_,rfl,λH G=>⟨rfl,by
    let y:=KR (n:=26) (by decide)<|x9/8+5*(i:Int);let l:=GK (i:=(x9/8+5*(i:Int))%26) y.1 y.2;let q3:(⟨#[97+((x9/8+5*(i:Int))%26).toNat]⟩:Str).length=1:=rfl;let q4:(δ6 (a8 at')++(⟨#[97+((x9/8+5*(i:Int))%26).toNat]⟩:Str)).length<=9:=by rw[KI];show Wr lA
    let hll:=BO;clear V X t o hi s;simp(disch:=omega) [eE,l,bC (G _ _ g),u]⟩⟩)
  rfl';simp[l];have:=k ((xf m).map λ(i:Nat)=>δ6 (a8 at')++(⟨#[97+((x9/8+5*(i:Int))%26).toNat]⟩:Str)++Vl z (a8 (at'+1)) a9) hC.l (hC++[.lst (((xf m).map λ(i:Nat)=>δ6 (a8 at')++(⟨#[97+((x9/8+5*(i:Int))%26).toNat]⟩:Str)++Vl z (a8 (at'+1)) a9).map PV.str)]) aE (by simp) (by
   unfold List.Nodup;rw[yy];show(List.pairwise_lt_range (n:=m)).imp_of_mem λ{a b} s y B e=>?_;let Z:=Wi.mp y;let q:=Wi.mp s;let s1:=DZ (z:=z) t.1<|Int.le_of_lt t.2;let E:=congrArg (λx=>x.cps.toList[at'.toNat]?) e;simp only[app_list,s1,v]at E;let lt:(εp 0).length=at'.toNat:=by rw[zm,len_list];show Nat.min_eq_left<|Int.toNat_le.mpr<|Int.le_of_lt t.2
   let f:=λb=>by
    have:=QH (εp 0) (List.drop (at'+1).toNat z.cps.toList) b
    rwa[lt]at this
   let r:∀i:Nat,(0:Int)<=(x9/8+5*(i:Int))%26:=λi=>(KR (n:=26) (by decide) _).1;show OC (n:=26) (a:=5*a) (b:=5*b) (Nat.mul_lt_mul_of_pos_left B (by decide)) (y3 (βx _) (Nat.lt_succ_of_le (Nat.mul_le_mul_left 5 (yl (wb Z H))))) ((Xz (r a)).symm.trans ((congrArg Int.ofNat (Nat.add_left_cancel (wu ((f _).symm.trans (E.trans (f _)))))).trans (Xz (r b)))))
  rw[w9]at this;show this
variable{body:Ms}
unseal Fl.W Rs.W in
def GP{t:Ev->PH->X7 0}{E:FE}(I:Nat->Ev->PH->Prop)(s:∀m z h,I m z h->(t z h).W λb w=>if b=true then(body z w).W { nx:=λz h=>∃M,M<m/\I M z h,ct:=λz h=>∃M,M<m/\I M z h,rt:=E.rt,bk:=E.nx} else E.nx z w):
  ∀(n m),m<n->∀z h,I m z h->(vA n t body z h).W E:=by
 intro n
 induction n with
 |zero=>intro m u;show absurd u<|Nat.not_lt_zero _
 |succ n i=>
  intro m u z h q;unfold vA Dq;rw[Ff];show Cg (s m z h q) λb w H=>?_;cases b with
  |false=>simpa using H
  |true=>
   dsimp only;cases e:body z w with
   |nx y x=>rw[e]at H;let(M,r,v):=H;show i M ⋯ y x v
   |ct y x=>rw[e]at H;let(M,r,v):=H;show i M ⋯ y x v
   |bk y x=>rw[e]at H;show H
   |rt p x=>rw[e]at H;show H
   |exc p x=>rw[e]at H;show H
   |bad=>rw[e]at H;show H
variable{Q:PV->PH->Prop}{cn:Str}{h1:PH}{ps:E_ 0}
def nS{f:Fn}(e:Yh h=.ok ps h1)(l:ps.l=n)(w:(f (.ref h1.l::ps)<|h1++[.ins cn []]).W λv H=>v=.non/\Q (.ref h1.l) H):(eG cn n f ms δ h).W Q:=by let(v,H,(E),z0,q):=cU w;subst z0;rw[oS,e,Rs.bind_ok,if_pos l,E,Rs.bind_ok];rw[iX];show q
variable{tg:Mg}
def CH{m:Me}{E:FE}(e:Zk h=.ok (.ref n) h1)(g:h1[n]?=a8 (.lst []))(k:Z9 h1):(gP (bB m) tg body δ h).W E:=oM (λ_ z H=>z=δ/\H=h1) e g ⟨rfl,rfl⟩ (λ_ _ _ _ i=>i.2▸g) (λq x _ _ X=>by simp at X) λ_ _ i=>i.1▸i.2▸k
variable{l:Nat}
def Tb.ne_lst{f:Nm->l7 PV}(t:ζB f)(g:h[l]?=a8 (.lst xs)):l≠n:=λz=>by subst z;let(E,(a),_):=t;simp[aV,g]at a
def KU{f:Str}{fs:k_ (Str×PV)}{a:Nat}{r:Ev}{E:FE}(g:h[a]?=a8 (.ins cn fs))(l:fs.l<1000)(k:∀H,(∀(i) o,i≠a->h[i]?=a8 o->H[i]?=a8 o)->H[a]?=a8 (.ins cn<|jO f (.ref h.l) fs)->H[h.length]?=a8 (.dK [])->H.l=h.l+1->E.nx (a_ a::r) H):(bG f (mV 0) dI (a_ a::r) h).W E:=by let A:=(vg.mp g).1;simp;show A0 (cR (ZN g) l) (k _ (λi o I e=>aI (ZN e)<|xy I) (aR<|Ext.app _ _ _ _ g) (aI aE ⋯)<|by simp)
def KW{q:Nm}:bU (pv p) (pv q) h=.ok (.bl<|decide (p=q)) h:=by
 unfold pv;rw[DQ rfl rfl];congr 2;rw[decide_eq_decide];show(λz=>by injection z with z1 z2;injection z1 with z1;injection z2 with z2 _;injection z2 with z2;show Prod.ext z1 z2,λz=>by rw[z])
def NP:bU (pv p) (.tup [.str "",.int 0]) h=.ok (.bl<|decide (p=root)) h:=KW (q:=root)
inductive Lf where
 |cnt (i:Int)
 |cho (r:k_ (Nm×Int))
 |bag (r:k_ (Nm×Int))
 |txt
structure En where
 nm:Nm
 kd:Str
 hd:PV
 sp:PV
 lf:l7 Lf
abbrev eU(e:En):PV:=.tup [.str e.kd,e.hd,e.sp]
abbrev tE(E:k_ En):k_ (Nm×En):=E.map λe=>(e.nm,e)
abbrev mdL(E:k_ En):k_ (Nm×PV):=E.map λe=>(e.nm,eU e)
abbrev lvL(a:Nm->Nat)(E:k_ En):k_ (Nm×PV):=(E.filter λe=>e.lf.isSome).map λe=>(e.nm,.ref<|a e.nm)
abbrev aY(E:k_ En)(p:Nm):PV:=if p=root then .str "map" else match fnd (tE E) p with
 |some e=>.str e.kd
 |none=>.non
abbrev rw2(p:Nm×Int):PV:=.tup [pv p.1,.int p.2]
abbrev lH(b:Nat)(h:PH)(c:Nat):Lf->Prop
 |.cnt i=>h[c]?=a8 (.ins "Count" [("total",.int i)])
 |.cho r=>∃s,h[c]?=a8 (.ins "Choice" [("standing",.ref s)])/\h[s]?=a8 (.lst<|r.map rw2)/\b<=s
 |.bag r=>∃s,h[c]?=a8 (.ins "Bag" [("standing",.ref s)])/\h[s]?=a8 (.lst<|r.map rw2)/\b<=s
 |.txt=>∃g m k s,h[c]?=a8 (.ins "Text" [("signs",.ref g),("marks",.ref m)])/\h[g]?=a8 (.ins "Signs" [("kept",.ref k)])/\h[k]?=a8 (.dK [])/\h[m]?=a8 (.ins "Marks" [("standing",.ref s)])/\h[s]?=a8 (.lst [])/\b<=k/\b<=s
variable{L:Lf}
def lH.keep(x:ζC L)(k:∀(i:Nat) o,h[i]?=a8 o->h'[i]?=a8 o):γ3 c L:=by
 cases L with
 |cnt i=>exact q7 x
 |cho r=>let⟨s,a,b,z⟩:=x;show(s,q7 a,q7 b,z)
 |bag r=>let⟨s,a,b,z⟩:=x;show(s,q7 a,q7 b,z)
 |txt=>let⟨g,m,t,s,a,b,c,d,e,z⟩:=x;show I4f g m t s (q7 a) (q7 b) (q7 c) (q7 d) (q7 e) z
variable{b':Nat}
def lH.low(x:ζC L)(q:b'<=b):lH b' h c L:=by
 cases L with
 |cnt i=>exact x
 |cho r=>let⟨s,a,b,z⟩:=x;show(s,a,b,vz q z)
 |bag r=>let⟨s,a,b,z⟩:=x;show(s,a,b,vz q z)
 |txt=>let⟨g,m,t,s,a,b,c,d,e,z⟩:=x;show I4g g m t s a b c d e (vz q z.1)<|vz q z.2
abbrev lf0(k:Str):l7 Lf:=if k="count" then a8 (.cnt 0) else if k="choice" then a8 (.cho []) else if k="bag" then a8 (.bag []) else if k="text" then a8 .txt else a9
structure FS(b:Nat)(h:PH)(l lt lm lf ll:Nat)(a:Nm->Nat)(E:k_ En):Prop where
 fo:h[l]?=some (.ins "Folding" [("tree",.ref lt),("leaves",.ref ll)])
 ti:h[lt]?=some (.ins "Tree" [("made",.ref lm),("failed",.ref lf)])
 ls:h[lf]?=some (.lst [])
 md:aV h lm=some ((mdL E).map (dX id))
 lv:aV h ll=some ((lvL a E).map (dX id))
 le:∀e∈E,∀L,e.lf=some L->lH b h (a e.nm) L
 aj:∀e∈E,∀e'∈E,e.lf.isSome=true->e'.lf.isSome=true->a e.nm=a e'.nm->e.nm=e'.nm
 ne:lm≠ll
 nd:(E.map (·.nm)).Nodup
 ro:∀e∈E,e.nm≠root
 ln:E.l<=60
 lo:b<=l/\b<=lt/\b<=lm/\b<=lf/\b<=ll/\∀e∈E,e.lf.isSome=true->b<=a e.nm
def vS(E)(p):fnd (mdL E) p=(fnd (tE E) p).map eU:=by
 induction E with
 |nil=>rfl
 |cons e E i=>
  change(if e.nm=p then a8 (eU e) else fnd (mdL E) p)=Option.map eU (if e.nm=p then a8 e else fnd (tE E) p)
  rw[i];split <;> rfl
variable{E:k_ En}
def CI(a)(c:(E.map (·.nm)).Nodup)(p):fnd (α3 E) p=(fnd (tE E) p).bind λe=>if e.lf.isSome=true then a_ (a e.nm) else a9:=by
 induction E with
 |nil=>rfl
 |cons e E q=>
  rw[wq,Vp]at c;let q:=q c.2;let no:fnd (α3 E) e.nm=a9/\fnd (tE E) e.nm=a9:=by
   have:fnd (tE E) e.nm=a9:=by
    cases q:fnd _ e.nm with
    |none=>rfl
    |some e'=>let⟨y,e,z⟩:=v7.mp<|CG q;show absurd (v7.mpr ⟨y,e,(Prod.mk.inj z).1⟩) c.1
   constructor
   ·cases q:fnd _ e.nm with
    |none=>rfl
    |some e'=>show E1b (v7.mp<|CG q) λy e z=>?_;show absurd (v7.mpr ⟨y,(VR.mp e).1,(Prod.mk.inj z).1⟩) c.1
   ·show this
  change fnd (((e::E).filter λe=>e.lf.isSome).map λe=>(e.nm,PV.ref _)) p=Option.bind (if e.nm=p then a8 e else fnd (tE E) p) _
  by_cases c:e.lf.isSome=true
  ·rw[W1 (p:=λe:En=>e.lf.isSome) c]
   change(if e.nm=p then a8 (PV.ref _) else fnd (α3 E) p)=_
   by_cases z:e.nm=p
   ·rw[β6 0,β6 0];simp[c]
   ·rw[γN 0,γN 0,q]
  ·rw[W2 (p:=λe:En=>e.lf.isSome) c]
   change fnd (α3 E) p=_
   by_cases z:e.nm=p
   ·rw[β6 0,<-z,no.1];simp[c]
   ·rw[γN 0,q]
variable{a:Nm->Nat}{lf ll lm:Nat}
def FS.ft{lt:Nat}(f:c_ E):aK "tree" (.ref l) h=.ok (.ref lt) h:=aP f.fo rfl
def FS.fl{lt:Nat}(f:c_ E):aK "leaves" (.ref l) h=.ok (.ref ll) h:=aP f.fo rfl
def FS.fm{lt:Nat}(f:c_ E):aK "made" (.ref lt) h=.ok (.ref lm) h:=aP f.ti rfl
def FS.keep{lt:Nat}(f:c_ E)(k:∀(i:Nat) o,h[i]?=a8 o->h'[i]?=a8 o):X5 a E:=⟨q7 f.fo,q7 f.ti,q7 f.ls,bF f.md λo=>k _ o,bF f.lv λo=>k _ o,λe H L q=>(γ4 q).keep k,f.aj,f.ne,f.nd,f.ro,f.ln,f.lo⟩
def FS.hasM{lt:Nat}(f:c_ E)(x:Nm):cI (pv x) (.ref lm) h=.ok (.bl (fnd (tE E) x).isSome) h:=by have:cI (pv x) _ h=.ok (.bl (aS _<|pv x).isSome) h:=GG f.md rfl;rw[this,qA,Vv,vS,Vv]
def FS.hasMn{lt:Nat}(f:c_ E)(x:Nm):aW (pv x) (.ref lm) h=.ok (.bl<|!(fnd (tE E) x).isSome) h:=by have:aW (pv x) _ h=.ok (.bl<|!(aS _<|pv x).isSome) h:=Ah f.md rfl;rw[this,qA,Vv,vS,Vv]
variable{e:En}
def FS.atM{lt:Nat}(f:c_ E)(q:fnd (tE E) x=a8 e):vAt (.ref lm) (pv x) h=.ok (eU e) h:=KN f.md rfl (by change aS _ (pv x)=_;rw[qA,vS,q];rfl)
def FS.hasL{lt:Nat}(f:c_ E)(x:Nm):cI (pv x) (.ref ll) h=.ok (.bl ((fnd (tE E) x).bind (·.lf)).isSome) h:=by
 have:cI (pv x) _ h=.ok (.bl (aS _<|pv x).isSome) h:=GG f.lv rfl;rw[this,qA,Vv,CI a f.nd];cases fnd _ x with
 |none=>rfl
 |some e=>
  change Rs.ok (PV.bl (if _=true then a8 _ else a9).isSome) h=.ok (PV.bl e.lf.isSome) h
  cases e.lf <;> rfl
def cL(q:fnd (tE E) x=a8 e):e∈E/\e.nm=x:=by let(y,(h),z):=v7.mp<|CG q;let(w,Z):=Prod.mk.inj z;show(Z▸h,Z▸w)
def FS.atL{lt:Nat}(f:c_ E)(q:fnd (tE E) x=a8 e)(c:e.lf.isSome=true):vAt (.ref ll) (pv x) h=.ok (.ref<|a x) h:=KN f.lv rfl (by change aS _ (pv x)=_;rw[qA,CI a f.nd,q];simp[c,(cL q).2])
def qO{lt:Nat}(f:c_ E)(p:Nm):fB [.ref lt,pv p] h=.ok (γH p) h:=by
 let w:(fB [.ref lt,pv p] h).W λq y=>q=γH p/\y=h:=by
  show W_fn ?_;unfold jC aY;rw[aD];simp[NP];by_cases e:p=root
  ·simp[e]
  ·simp[e];rfl';let H:=f.hasM p;cases z:fnd _ p with
   |none=>rw[z]at H;simp[f.fm,H]
   |some r=>rw[z]at H;simp[f.fm,H,f.atM z,eU]
 let(q,y,(e),z0,z1):=cU w;subst z0;subst z1;show e
def E6(E)(p):γH p=.non\/∃k,γH p=.str k:=by
 unfold aY;split
 ·show .inr ⟨_,rfl⟩
 ·split
  ·show .inr ⟨_,rfl⟩
  ·show .inl rfl
variable{z:PV}
def uO{lt:Nat}(f:c_ E)(hz:(γH p=.str "map" /\ ∃t,z=.str t)\/(γH p=.str "row" /\ ∃t,z=.tup t)):iM [.ref lt,pv p,z] h=.ok (.bl true) h:=by
 let w:(iM [.ref lt,pv p,z] h).W λq H=>q=.bl true/\H=h:=by
  show W_fn ?_;unfold mZ;let k:=qO f p;rcases hz with⟨e,t,rfl⟩|⟨e,t,rfl⟩
  ·rw[e]at k;simp[mM,mMx "kind_of" f.ti rfl,bX,k,_L.known,oK]
  ·rw[e]at k;simp[mM,mMx "kind_of" f.ti rfl,bX,k,_L.known,oK]
 let(q,H,(e),z0,z1):=cU w;subst z0;subst z1;show e
def iQ{α:Type}(c)(f:α->PV):∀s:k_ α,s.filterMap (λx=>if c x=true then a8 (f x) else a9)=(s.filter c).map f
 |[]=>rfl
 |x::s=>by rw[WS,List.filter_cons];cases e:c x <;> simp[iQ c f s]
variable{w:Str}
def NQ{n m:Int}:hL [sv [(w,n)],pv (w,m)] h=.ok (.bl<|decide (m<=n)) h:=by
 let v:(hL [sv [(w,n)],pv (w,m)] h).W λq H=>q=.bl (decide (m<=n))/\H=h:=by
  show W_fn ?_;unfold Au;rw[aD];show JM (xs:=[pv (w,n)]) (λq y H=>H=h/\q=0/\y=[a8 _,a8<|pv _,a9,a9]) (.inl<|by simp[OB]) ⟨rfl,rfl,rfl⟩ ?_ ?_
  ·rintro q x y H X ⟨rfl,rfl,rfl⟩
   exists X
   show(_,by simp[pv];rfl,?_);unfold sJ;simp
  ·show λy H z5=>E0c z5 λ_ z _=>?_
   exists z
 let(q,H,(e),z0,z1):=cU v;subst z0;subst z1;show e
abbrev CJ(nm:Nm)(w:Str)(v:Int):Lf->Lf
 |.cnt i=>.cnt (i+v)
 |.cho _=>.cho [(nm,v)]
 |.bag r=>if w="put" then .bag (r++[(nm,v)]) else .bag (r.filter λp=>!decide (p.2=v))
 |.txt=>.txt
abbrev E7(w:Str):Lf->Prop
 |.cnt _=>w="add"
 |.cho _=>w="choose"
 |.bag _=>w="put" \/ w="take"
 |.txt=>False
abbrev rowsOf:Lf->k_ (Nm×Int)
 |.cho r=>r
 |.bag r=>r
 |_=>[]
abbrev Cvd(S:Seen)(L:Lf):Prop:=(ζD 0=[]\/∃w n,S=[(w,n)]/\∀p∈rowsOf L,p.1.1=w/\p.1.2<=n)
variable{S:Seen}
def Cvd.cov(c:Cvd S L){p:Nm×Int}(H:p∈ζD 0):hL [sv S,pv p.1] h=.ok (.bl true) h:=by
 rcases c with c|⟨w,n,rfl,c⟩
 ·rw[c]at H;cases H
 ·let(C,z):=c p H;subst C;have:=NQ (w:=p.1.1) (n:=n) (m:=p.1.2) (h:=h);rw[decide_eq_true z]at this;show this
variable{v:Int}
def KY{i:Int}{t:Nm}{d:Dd}(e:d.act=[.str "add",pv t,.int v])(g:h[c]?=a8 (.ins "Count" [("total",.int i)]))(k:Q .non (h.set c<|.ins "Count" [("total",.int<|i+v)])):(nH [.ref c,dP d] h).W Q:=by
 show W_fn ?_;unfold nG;let E:dP d=.tup [ZH 0,γg 0,.tup [.str "add",pv t,.int v]]:=by unfold dP;rw[e]
 rw[aD,E];simp;rfl';let l:Xb ("total" : Str) [(("total" : Str),PV.int i)]=a8 _:=rfl;simp[GC,(tZ g),Qi,l,(cR g<|by simp)];show k
def KZ{p:Nm×Int}:vIx (rw2 p) (.int 0) h=.ok (pv p.1) h:=by unfold rw2;simp
def OD{p:Nm×Int}:vIx (rw2 p) (.int 1) h=.ok (.int p.2) h:=by unfold rw2;simp
def uP{s:PV}(g:h[c]?=a8 (.ins cn [("standing",s)]))(n):oQ "standing" (.ref c) (.ref n) h=a8 (h.set c<|.ins cn [("standing",.ref n)]):=by have:=cR (f:="standing") (p:=.ref n) g (by simp);rw[this];rfl
variable{s:Nat}
def FJ{r:k_ (Nm×Int)}{t:Nm}{d:Dd}(hb:b<=h.l)(ea:d.act=[.str "choose",pv t,.int v])(cv:Cvd d.seen (.cho r))(lr:r.l<=60)(g:h[c]?=a8 (.ins "Choice" [("standing",.ref s)]))(gs:h[s]?=a8 (.lst<|r.map rw2))(k:∀h',(∀(i:Nat) o,i≠c->h[i]?=a8 o->h'[i]?=a8 o)->γ3 c (.cho [(d.nm,v)])->h.l<=h'.l->Q .non h'):(kR [.ref c,dP d] h).W Q:=by
 show W_fn ?_;unfold kQ;let ed:dP d=.tup [ZH 0,γg 0,.tup [.str "choose",pv t,.int v]]:=by unfold dP;rw[ea]
 let f1:∀{h':PH},t_ h'->aK "standing" (.ref c) h'=.ok (.ref s) h':=λx=>aP (YY g) rfl;rw[aD,ed];simp;rfl';simp;let hc:=cP (js:=[a9,a8 3]) (tg:=gN 0) (tst:=qU<|aN<|bD 2 hL<|aA (mV 1)<|aA (o_ (mV 0)<|e_ 0) aC) (elt:=mV 0) (m:=mUn (aK "standing")<|mV 0) (δ:=[a_ c,a8<|.tup [ZH 0,γg 0,.tup [.str "choose",pv t,.int v]],a8<|pv d.nm,a8<|sv d.seen,a8<|.tup [.str "choose",pv t,.int v],a9]) (h:=h)
  (λ_=>a9) (by simp[f1<|Ext.refl _]) gs ⋯ (λp hp=>(A0 rfl λh3 hx=>by simp[eE,KZ,cv.cov hp]))
 let en:r.filterMap (λ_:Nm×Int=>(a9:l7 PV))=[]:=by simp
 rw[en]at hc;rw[aD];simp[hc];rfl';let x1:t_ (h++[MO.lst []]):=m_ _;let g1:(h++[MO.lst []])[h.length]?=a8 (.lst []):=aE;generalize h++[MO.lst []]=h1 at g1 x1;let x2:YQ (h1++[MO.lst [rw2 (d.nm,v)]]):=m_ _;let g2:(h1++[MO.lst [rw2 (d.nm,v)]])[h1.length]?=a8 (.lst [rw2 (d.nm,v)]):=aE;let vp:=vF (x2 _ _ g1) g2 (by simp);let e2:∀hz:PH,hz++[MO.lst [PV.tup [ZH 0,.int v]]]=hz++[MO.lst [rw2 (d.nm,v)]]:=λ_=>rfl;simp[e2];generalize h1++[MO.lst [rw2 (d.nm,v)]]=h2 at g2 vp x2;rw[vp];let x3:Ext h2 (h2++[MO.lst [rw2 (d.nm,v)]]):=m_ _;let g3:(h2++[MO.lst [rw2 (d.nm,v)]])[h2.length]?=a8 (.lst [rw2 (d.nm,v)]):=aE;let b3:=vz hb (x1.trans x2).len;generalize h2.l=l3 at g3 b3;let x:=(x1.trans x2).trans x3;simp;show A0 (uP (YY g) l3) ?_;show k _ (λi o hi e=>aI (YY e)<|xy hi) (I1c l3 (aR<|x _ _ g) (aI g3<|xy (λz=>by rw[z,YY g]at g3;cases g3)) b3) (by rw[wo];show x.len)
def FK{r:k_ (Nm×Int)}{t:Nm}{d:Dd}(hb:b<=h.l)(hw:w="put" \/ w="take")(ea:d.act=[.str w,pv t,.int v])(cv:Cvd d.seen (.bag r))(lr:r.l<=60)(g:h[c]?=a8 (.ins "Bag" [("standing",.ref s)]))(gs:h[s]?=a8 (.lst<|r.map rw2))(k:∀h',(∀(i:Nat) o,i≠c->h[i]?=a8 o->h'[i]?=a8 o)->γ3 c (CJ d.nm w v<|.bag r)->h.l<=h'.l->Q .non h'):(sM [.ref c,dP d] h).W Q:=by
 show W_fn ?_;unfold sL;let ed:dP d=.tup [ZH 0,γg 0,.tup [.str w,pv t,.int v]]:=by unfold dP;rw[ea]
 let f1:∀{h':PH},t_ h'->aK "standing" (.ref c) h'=.ok (.ref s) h':=λx=>aP (YY g) rfl;let fin:∀{l3:Nat}{h3:PH}{r':k_ (Nm×Int)},b<=l3->t_ h3->h3[l3]?=a8 (.lst<|r'.map rw2)->CJ d.nm w v (.bag r)=.bag r'->Q .non (h3.set c<|.ins "Bag" [("standing",.ref l3)]):=λ{l3 h3 r'} b3 x g3 er=>by show k _ (λi o hi e=>aI (YY e)<|xy hi) ?_ (by rw[wo];show x.len);rw[er];show I1c l3 (aR<|x _ _ g) (aI g3<|xy (λz=>by rw[z,YY g]at g3;cases g3)) b3
 rw[aD,ed];simp;rfl';rcases hw with rfl|rfl
 ·let x2:t_ (h++[MO.lst [rw2 (d.nm,v)]]):=m_ _;let g2:(h++[MO.lst [rw2 (d.nm,v)]])[h.length]?=a8 (.lst [rw2 (d.nm,v)]):=aE;let vp:=vF (x2 _ _ gs) g2 (by simp;omega);let e2:∀hz:PH,hz++[MO.lst [PV.tup [ZH 0,.int v]]]=hz++[MO.lst [rw2 (d.nm,v)]]:=λ_=>rfl;simp[e2,f1<|Ext.refl _];generalize h++[MO.lst [rw2 (d.nm,v)]]=h2 at g2 vp x2;rw[vp];let x3:Ext h2 (h2++[MO.lst<|r.map rw2++[rw2 (d.nm,v)]]):=m_ _;let g3:(h2++[MO.lst<|r.map rw2++[rw2 (d.nm,v)]])[h2.length]?=a8 (.lst<|r.map rw2++[rw2 (d.nm,v)]):=aE;let b3:=vz hb x2.len;generalize h2.l=l3 at g3 b3;simp;show A0 (uP ((x2.trans x3) _ _ g) l3) (fin (r':=r++[(d.nm,v)]) b3 (x2.trans x3) ?_<|by simp[CJ]);rw[g3,yo];rfl
 ·let n1:¬ (v3 "take")="put" := by decide +kernel
  let hc:=cP (js:=[a9,a8 4,a8 3]) (tg:=gN 0) (tst:=oC (aN<|aB hZ (o_ (mV 0)<|e_ 1)<|aB vAt (mV 1)<|e_ 2)<|qU<|aN<|bD 2 hL<|aA (mV 2)<|aA (o_ (mV 0)<|e_ 0) aC) (elt:=mV 0) (m:=mUn (aK "standing")<|mV 0) (δ:=[a_ c,a8<|.tup [ZH 0,γg 0,.tup [.str "take",pv t,.int v]],a8<|pv d.nm,a8<|sv d.seen,a8<|.tup [.str "take",pv t,.int v]]) (h:=h)
   (λp=>if(!decide (p.2=v))=true then a8 (rw2 p) else a9) (by simp[f1 (βD 0)]) gs ⋯ (λp hp=>⟨_,rfl,λh3 hx=>by
    by_cases z:p.2=v
    ·simp[eE,KZ,OD,z,cv.cov hp]
    ·simp[eE,KZ,OD,z]⟩)
  rw[iQ (λp:Nm×Int=>!decide (p.2=v)) rw2]at hc;simp[n1,hc];show A0 (uP (ZN g) _) (fin hb (m_ _) aE<|by simp[CJ,n1])
def QI:¬ (v3 "choice")="count" /\ ¬ (v3 "bag")="count" /\ ¬ (v3 "bag")="choice" /\ ¬ (v3 "text")="count" /\ ¬ (v3 "text")="choice" /\ ¬ (v3 "text")="bag" := by decide +kernel
def CK{o:MO}(x:t_ h1)(N:h.l<=n):t_ (h1.set n o):=λi o e=>have H:=(Y7 0).1;aI (YY e) (Io<|wb H N)
def AE{E:FE}{r:Ev}(k:∀H,t_ H->(∃s,h.l<=s/\H[h.length]?=a8 (.ins cn [("standing",.ref s)])/\H[s]?=a8 (.lst []))->h.l<H.l->E.nx (a_ h.l::r) H):(bG "standing" (mV 0) (cK aC) (a_ h.l::r)<|h++[.ins cn []]).W E:=by
 let g:(h++[MO.ins cn []])[h.length]?=a8 _:=aE;let X:t_ (h++[MO.ins cn []]):=m_ _;let l:(h++[MO.ins cn []]).length=h.l+1:=by simp
 generalize h++[MO.ins cn []]=hA at g X l;let x:δ8 (hA++[MO.lst []]):=m_ _;simp;show(_,cR (YY g)<|by simp,k _ (CK (X.trans x)<|vk _) (I1c hA.l ⋯ (aR<|x _ _ g) (aI aE ⋯)) ?_);rw[wo,ye,l];show Wl<|VY _
abbrev LfN(B:Nat)(h:PH)(c:Nat):Lf->Prop
 |.cnt i=>h[c]?=a8 (.ins "Count" [("total",.int i)])
 |.cho r=>∃s,B<=s/\h[c]?=a8 (.ins "Choice" [("standing",.ref s)])/\h[s]?=a8 (.lst<|r.map rw2)
 |.bag r=>∃s,B<=s/\h[c]?=a8 (.ins "Bag" [("standing",.ref s)])/\h[s]?=a8 (.lst<|r.map rw2)
 |.txt=>∃g m k s,(B<=g/\B<=m/\B<=k/\B<=s)/\h[c]?=a8 (.ins "Text" [("signs",.ref g),("marks",.ref m)])/\h[g]?=a8 (.ins "Signs" [("kept",.ref k)])/\h[k]?=a8 (.dK [])/\h[m]?=a8 (.ins "Marks" [("standing",.ref s)])/\h[s]?=a8 (.lst [])
variable{B:Nat}
def LfN.at{hz:PH}(x:LfN B h c L)(H:B<=c)(k:∀(i) o,B<=i->h[i]?=a8 o->hz[i]?=a8 o):LfN B hz c L/\lH B hz c L:=by
 cases L with
 |cnt i=>exact⟨q7 H x,q7 H x⟩
 |cho r=>let⟨s,a,b,d⟩:=x;show((I1c s a (q7 H b)<|k _ _ a d),s,q7 H b,q7 a d,a)
 |bag r=>let⟨s,a,b,d⟩:=x;show((I1c s a (q7 H b)<|k _ _ a d),s,q7 H b,q7 a d,a)
 |txt=>show E4f x λg m t s z0 a b d e f=>?_;let(w,v,z,y):=z0;show((I4f g m t s ⟨w,v,z,y⟩ (q7 H a) (q7 w b) (q7 z d) (q7 v e)<|k _ _ y f),g,m,t,s,q7 H a,q7 w b,q7 z d,q7 v e,q7 y f,z,y)
def GQ{k:Str}(v:k="count" \/ k="choice" \/ k="bag" \/ k="text" \/ k="map" \/ k="row")(t:lf0 k=a9->Q .non h)(K:∀L H,lf0 k=a8 L->t_ H->LfN h.l H h.l L->h.l<H.l->Q (.ref h.l) H):(vJ [.str k] h).W Q:=by
 let((r),u,d,n4,n5,n6):=QI;show W_fn ?_;unfold vI;rcases v with rfl|rfl|rfl|rfl|v
 ·rw[aD];simp[-oS];show nS rfl rfl <|W_fn ?_;unfold fR;let g:(h++[MO.ins "Count" []])[h.length]?=a8 _:=aE;simp;show A0 (cR g<|by simp) ?_;show K (.cnt 0) _ rfl (CK (m_ _)<|vk _) (aR g) (by rw[wo];show(by simp))
 ·rw[aD];simp[r];rfl';rw[aD];simp[-oS];show nS rfl rfl <|W_fn ?_;show AE λH x z1 l=>E1c z1 λs G g y=>⟨rfl,K (.cho []) H (by simp[lf0,r]) x (I1c s G g y) l⟩
 ·rw[aD];simp[u];rfl';rw[aD,gQ];simp[d];rfl';rw[aD,gQ];simp[-oS];show nS rfl rfl <|W_fn ?_;show AE λH x z0 l=>E1c z0 λs G g y=>⟨rfl,K (.bag []) H (by simp[lf0,u,d]) x (I1c s G g y) l⟩
 ·rw[aD,gQ];simp[n4];rfl';rw[aD,gQ];simp[n5];rfl';rw[aD,gQ];simp[n6];rfl';rw[aD,gQ];simp[-oS];show nS rfl rfl <|W_fn ?_;unfold iE;let g:(h++[MO.ins "Text" []])[h.length]?=a8 _:=aE;let x1:t_ (h++[MO.ins "Text" []]):=m_ _;let l1:(h++[MO.ins "Text" []]).length=h.l+1:=by simp
  generalize h++[MO.ins "Text" []]=hA at g x1 l1;rw[aD,A8];show nS rfl rfl <|W_fn ?_;show KU aE (by simp) λB r u d lB=>⟨rfl,?_⟩;let q:δ8 B:=λi o e=>r _ _ (by have:=(Y7 0).1;omega)<|Ext.app _ _ _ _ e;simp;show A0 (cR (q _ _ g)<|by simp)<|now ?_;let C:(δ9<|MO.ins "Text"<|jO "signs" (.ref hA.l) [])[h.length]?=_:=aR<|q _ _ g;let nA:hA.l≠h.l:=⋯
  let S:(δ9<|MO.ins "Text"<|jO "signs" (.ref hA.l) [])[hA.length]?=_:=aI u<|xy nA;let D:(δ9<|MO.ins "Text"<|jO "signs" (.ref hA.l) [])[(hA++[MO.ins "Signs" []]).length]?=_:=aI d (show h.l≠(hA++[MO.ins "Signs" []]).length by rw[ye];omega);let xC:t_ (δ9<|MO.ins "Text"<|jO "signs" (.ref hA.l) []):=CK (x1.trans q)<|vk _;let lC:h.l<(δ9<|MO.ins "Text"<|jO "signs" (.ref hA.l) []).length:=by rw[wo,lB,ye];omega
  generalize B.set h.l (MO.ins "Text"<|jO "signs" (.ref _) [])=hC at C S D xC lC;rw[A8];show nS rfl rfl <|W_fn ?_;show AE λq i E lE=>⟨rfl,?_⟩;let(s,sC,M,w):=E;simp;show A0 (cR (i _ _ C)<|show 1<1000 by decide) ?_;let T:=i _ _ C;let t:=i _ _ D;show K .txt _ rfl (CK (xC.trans i)<|vk _) (I4f _ _ _ s ⟨?_,yw lC,?_,?_⟩ (aR T) (aI (i _ _ S)<|xy nA) (aI t ?_) (aI M ?_)<|aI w ?_) ?_
  ·omega
  ·rw[ye];omega
  ·omega
  ·intro z;rw[<-z,T]at t;cases t
  ·omega
  ·intro z;rw[<-z,T]at w;cases w
  ·rw[wo];omega
 ·let o:¬ k="count" /\ ¬ k="choice" /\ ¬ k="bag" /\ ¬ k="text" := by rcases v with rfl|rfl <;> decide +kernel
  rw[aD,gQ];simp[o.1];rfl';rw[aD,gQ];simp[o.2.1];rfl';rw[aD,gQ];simp[o.2.2.1];rfl';rw[aD,gQ];simp[o.2.2.2];rfl';simp;show t (by simp[lf0,o])
abbrev fN(z:PV)(nm:Nm):PV:=match z with
 |.str t=>.str t
 |_=>.tup [.tup [.int 1,.str nm.1,.int nm.2,.int 0]]
abbrev E8(E:k_ En)(p:Nm)(z:PV):Prop:=(γH p=.str "map" /\ ∃t:Str,z=.str t)\/(γH p=.str "row" /\ z=.tup [.tup [],.int 1])
variable{nm:Nm}
def E9(s:E8 E p z)(h):jF [z,pv nm] h=.ok (fN z nm) h:=by
 let w:(jF [z,pv nm] h).W λq H=>q=fN z nm/\H=h:=by
  show W_fn ?_;unfold sG;rcases s with⟨_,t,rfl⟩|⟨_,rfl⟩
  ·simp[_L.known,oK,fN]
  ·simp[_L.known,oK];show W_fn ?_;unfold sF;rw[aD];simp;rfl';rw[aD];simp[pv];rfl';simp[fN]
 let(q,H,(e),z0,z1):=cU w;subst z0;subst z1;show e
abbrev Fr(b:Nat)(h h':PH):Prop:=(∀(i:Nat) o,i<b->h[i]?=a8 o->h'[i]?=a8 o)/\h.l<=h'.l/\∀(i:Nat) xs,h[i]?=a8 (.lst xs)->h'[i]?=a8 (.lst xs)
def inT{x:Str}(h):cI (.str x) (.tup [.str "make",.str "move",.str "drop"]) h=.ok (.bl<|decide (x="make" \/ x="move" \/ x="drop")) h:=by
 rw[show([PV.str "make",.str "move",.str "drop"]:E_ 0)=(["make","move","drop"]:S2 0).map _ from rfl,vG]
 simp
def inB{x:Str}(h):aW (.str x) (.tup [.str "back",.str "settle"]) h=.ok (.bl<|!decide (x="back" \/ x="settle")) h:=by
 rw[show([PV.str "back",.str "settle"]:E_ 0)=(["back","settle"]:S2 0).map _ from rfl,Cs]
 simp
def QJ(E)(e:En):tE (E++[e])=tE E++[(e.nm,e)]:=by simp[tE]
def qB{β:Type}{M:k_ (Nm×β)}{r:β}(e:ζA p=a9):sZ M p r=M++[(p,r)]:=by unfold sZ;rw[e];rfl
def La{lt:Nat}(f:c_ E){d:Dd}{k:Str}(e:d.act=[.str "make",.str k,pv p,z])(n:fnd (tE E) d.nm=a9)(s:E8 E p z)(K:Q (.str "done") (δu<|.dD<|(mdL<|E++[⟨d.nm,k,pv p,γh 0,lf0 k⟩]).map<|dX id)):(kE [.ref lt,dP d] h).W Q:=by
 let D:dP d=.tup [ZH 0,γg 0,.tup [.str "make",.str k,pv p,z]]:=by unfold dP;rw[e]
 show W_fn ?_;unfold gZ;rw[aD,D];simp;rfl';rw[aD];simp[mM,mMx "hear_make" f.ti rfl,uI];show W_fn ?_;unfold fU;rw[aD];simp;rfl';rw[aD];simp[mM,mMx "takes" f.ti rfl,jD,(uO f<|s.imp id λq=>⟨q.1,_,q.2⟩)];rfl';rw[aD];let H:gW _ (ZH 0) (.tup [.str k,pv p,γh 0]) h=a8 (δu<|.dD<|dW ((mdL E).map _) (ZH 0)<|id _):=jW f.md rfl (by rw[vn,mdL,vn];have:=f.ln;omega);rw[AD,qB (by rw[vS,n];rfl)]at H;have:mdL E++[(d.nm,PV.tup [.str k,pv p,γh 0])]=mdL (E++[⟨d.nm,k,pv p,γh 0,lf0 k⟩]):=by simp[mdL,eU]
 rw[this]at H;simp[E9 s,f.fm];show(_,H,now ?_);simp[jT];show K
abbrev NR:MO->Bool
 |.dK _=>true
 |.dD _=>true
 |_=>false
open H in
def iH(t:Zr n=εR 0):∃o,h[n]?=a8 o/\NR o=true/\(kvs≠[]->o≠.dK []):=by
 unfold aV at t;split at t
 ·rename_i e;show βw e rfl λ_=>nofun
 ·rename_i e;exists t;show βw e rfl λz=>absurd rfl z
 ·exists t
def bM(t:Zr n=εR 0){o:MO}(g:h[l]?=a8 o)(N:NR o=false):l≠n:=λz=>by
 let(O,(e),q,_):=iH t;rw[<-z,g]at e
 exists e
 rw[N]at q
 exists q
def Lb{g:Nat}(t:Zr n=εR 0)(k:kvs≠[])(e:h[g]?=a8 (.dK [])):g≠n:=λz=>by
 let(o,(q),_,Q):=iH t;rw[<-z,e]at q
 exists q
 show Q k rfl
def FS.leaf{lt:Nat}(f:c_ E)(k:∀(i) o,i≠lm->i≠ll->h[i]?=a8 o->h'[i]?=a8 o)(H:e∈E)(q:e.lf=a8 L):γ3 (a e.nm) L:=by
 let x:=γ4 q;let n:((mdL E).map<|dX id)≠[]:=λz=>by rw[Wo,mdL,Wo]at z;rw[z]at H;cases H
 let N:((α3 E).map<|dX id)≠[]:=λz=>by rw[Wo,lvL,Wo]at z;have:e∈E.filter λe=>e.lf.isSome:=VR.mpr ⟨H,by rw[q];rfl⟩;rw[z]at this;cases this
 let K:∀(i) o,NR o=false->h[i]?=a8 o->h'[i]?=a8 o:=λi o O e=>q7 (α4 e O) (αp e O) e;cases L with
 |cnt i=>exact βW rfl x
 |cho r=>let⟨s,a,b,z⟩:=x;show(s,βW rfl a,βW rfl b,z)
 |bag r=>let⟨s,a,b,z⟩:=x;show(s,βW rfl a,βW rfl b,z)
 |txt=>show E4f x λg m t s a b c d e z=>?_;show I4f g m t s (βW rfl a) (βW rfl b) (q7 (Lb f.md n c) (Lb f.lv N c) c) (βW rfl d) (βW rfl e) z
def FS.adr{lt:Nat}(f:c_ E)(H:e∈E)(q:e.lf.isSome=true):a e.nm<h.l:=by
 let(L,q):=zd.mp q;let x:=γ4 q;have:=λ{o}(z:h[a e.nm]?=a8 o)=>(vg.mp z).1;cases L with
 |cnt i=>exact this x
 |cho r=>let⟨s,a,b⟩:=x;show this a
 |bag r=>let⟨s,a,b⟩:=x;show this a
 |txt=>let⟨g,m,t,s,a,b,c,d,e⟩:=x;show this a
def uQ(q:fnd (tE E) x=a9):∀e∈E,e.nm≠x:=λe H z=>by
 have:(fnd (tE E) x).isSome=true:=xV.mpr<|v7.mpr ⟨(e.nm,e),v7.mpr ⟨e,H,rfl⟩,z⟩;rw[q]at this
 exists this
variable{a':Nm->Nat}
def BQ(H:∀e∈E,a' e.nm=a e.nm):lvL a' E=α3 E:=by apply y4;intro e z;rw[H e (VR.mp z).1]
def FS.add{lt:Nat}(f:c_ E)(nw:fnd (tE E) e.nm=a9)(nr:e.nm≠root)(le:E.l<60)(k:∀(i) o,i≠lm->i≠ll->h[i]?=a8 o->h'[i]?=a8 o)(ha:∀x∈E,a' x.nm=a x.nm)(md:aV h' lm=a8 ((mdL<|E++[e]).map<|dX id))(lv:aV h' ll=a8 ((lvL a'<|E++[e]).map<|dX id))(u:∀L,e.lf=a8 L->γ3 (a' e.nm) L/\h.l<=a' e.nm):X5 a' (E++[e]):=by
 let bl:=vz f.lo.1<|yw (εS 0).1;show(q7 (α4 f.fo rfl) (αp f.fo rfl) f.fo,q7 (α4 f.ti rfl) (αp f.ti rfl) f.ti,q7 (α4 f.ls rfl) (αp f.ls rfl) f.ls,md,lv,λx hx L q=>?_,λx hx y w q q2 z=>?_,f.ne,?_,λx hx=>?_,by rw[ye];show le,f.lo.1,f.lo.2.1,f.lo.2.2.1,f.lo.2.2.2.1,f.lo.2.2.2.2.1,λx hx q=>?_)
 ·rcases xj.mp hx with hx|hx
  ·rw[ha x hx];show f.leaf k hx q
  ·rw[vx.mp hx]at q⊢;show(u L q).1
 ·let L:∀x∈E,x.lf.isSome=true->e.lf.isSome=true->a' x.nm≠a' e.nm:=λx hx q q' z=>by let(w,q'):=zd.mp q';let h1:=f.adr hx q;let h2:=(u w q').2;rw[ha x hx]at z;omega
  rcases xj.mp hx with hx|hx <;> rcases xj.mp w with w|w
  ·rw[ha x hx,ha y w]at z;show f.aj x hx y w q q2 z
  ·rw[vx.mp w]at q2 z;show YJ<|L x hx q q2
  ·rw[vx.mp hx]at q z;show absurd z.symm<|L y w q2 q
  ·rw[vx.mp hx,vx.mp w]
 ·rw[yo,zq];show(f.nd,by simp,λx hx y w z=>by let(u,hu,rfl):=v7.mp hx;rw[List.map_singleton,vx]at w;show uQ nw u hu<|z.trans w)
 ·rcases xj.mp hx with hx|hx
  ·show f.ro x hx
  ·rw[vx.mp hx];show nr
 ·rcases xj.mp hx with hx|hx
  ·rw[ha x hx];show f.lo.2.2.2.2.2 x hx q
  ·rw[vx.mp hx]at q⊢;let(L,q):=zd.mp q;show vz bl (u L q).2
abbrev Ea(k:Str):Prop:=k="count" \/ k="choice" \/ k="bag" \/ k="text" \/ k="map" \/ k="row"
def CL(e):α3 (E++[e])=α3 E++(if e.lf.isSome=true then[(e.nm,.ref<|a e.nm)] else[]):=by
 unfold lvL;rw[List.filter_append,yo];congr 1;by_cases c:e.lf.isSome=true
 ·rw[Za 0,W1 (p:=λe:En=>e.lf.isSome) c];rfl
 ·rw[βh 0,W2 (p:=λe:En=>e.lf.isSome) c];rfl
def Lc{lt:Nat}(f:c_ E){d:Dd}{k:Str}(ea:d.act=[.str "make",.str k,pv p,z])(i:fnd (tE E) d.nm=a9)(nr:d.nm≠root)(hk:Ea k)(s:E8 E p z)(le:E.l<60)(kq:∀h' a',X5 a' (E++[⟨d.nm,k,pv p,γh 0,lf0 k⟩])->εT h'->Q (.str "done") h'):(bL [.ref l,dP d] h).W Q:=by
 show W_fn ?_;unfold cS;rw[aD];simp[dP2];rfl';rw[aD,gQ];let i0:βE 0=a8 (.str "make"):=by rw[ea];show hQ rfl
 let i1:βE 1=a8 (.str k):=by rw[ea];show hQ rfl
 simp[i0,inT,mM,mMx "hear_tree" f.fo rfl,nI];show W_fn ?_;unfold cN;rw[aD];simp[mM,mMx "hear" f.ti rfl,CA,f.ft];show La f ea i s ?_;let nl:=f.ne;let(o0,(qc),_):=iH f.md;let q:=eY (kvs:=(mdL<|E++[⟨d.nm,k,pv p,γh 0,lf0 k⟩]).map<|dX id)<|aR qc;let x:∀(i:Nat) o,i≠lm->h[i]?=a8 o->(δu<|.dD<|(mdL<|E++[⟨d.nm,k,pv p,γh 0,lf0 k⟩]).map<|dX id)[i]?=a8 o:=λi o L e=>aI e<|xy L;let l1:(δu<|.dD<|(mdL<|E++[⟨d.nm,k,pv p,γh 0,lf0 k⟩]).map<|dX id).length=h.l:=wo;generalize h.set lm (.dD<|(mdL _).map<|dX id)=h1 at q x l1;let o:=YY (α4 f.fo rfl) f.fo;let i4:=bF f.lv λo=>x _ o<|xy nl;rfl';rw[aD];simp[dP2];rfl';rw[aD,gQ];simp[i0,i1,mM,mMx "add_leaf" o rfl,kD,dP0];show W_fn ?_;unfold cZ;rw[aD];simp;show GQ hk (λe=>now ?_) λL L e x2 la l2=>now ?_
 ·simp;rfl';simp;show kq h1 a (f.add i nr le (λi o L _ e=>x i o L e) (λ_ _=>rfl) q ?_ λL q=>?_) ⟨λi o L e=>x i o (by have:=f.lo.2.2.1;omega) e,WR l1.symm,λi xs e=>YY (α4 e rfl) e⟩
  ·rw[CL,e];simpa using i4
  ·rw[e]at q;exists q
 ·let o8:=bF i4 λo=>x2 _ o;let qe:aK "leaves" (.ref l) L=.ok (.ref ll) L:=aP (x2 _ _ o) rfl;let hp:gW (.ref ll) (ZH 0) (.ref h1.l) L=a8 (L.set ll<|.dD<|dW _ (ZH 0)<|id _):=jW o8 rfl (by rw[vn,lvL,vn];have:=Wy (λe:En=>e.lf.isSome) E;omega);rw[AD,qB (by rw[CI a f.nd,i];rfl)]at hp;let nn:=uQ i;let pk:α3 E++[(d.nm,PV.ref h1.l)]=lvL (λx=>if x=d.nm then h1.l else a x) (E++[⟨d.nm,k,pv p,γh 0,lf0 k⟩]):=by rw[CL,BQ (a':=λx=>if x=d.nm then h1.l else a x) λe he=>if_neg<|nn e he,if_pos (show(lf0 k).isSome=true by rw[e];rfl)];simp
  rw[pk]at hp;simp[qe];show(_,hp,?_);let(o2,(gx),_):=iH o8;rfl';simp;let kk:∀(i:Nat) o,i≠lm->i≠ll->h[i]?=a8 o->(L.set ll<|.dD<|(lvL (λx=>if x=d.nm then h1.l else a x) (E++[⟨d.nm,k,pv p,γh 0,lf0 k⟩])).map (dX id))[i]?=a8 o:=λi o L hj e=>aI (x2 _ _<|x i o L e)<|xy hj;show kq _ _ (f.add i nr le kk (λe he=>if_neg<|nn e he) (bF (bF q λo=>x2 _ o) λo e=>aI e<|xy nl) (eY<|aR gx) λL' q=>?_) ⟨λi o L e=>kk i o (by have:=f.lo.2.2.1;omega) (by have:=f.lo.2.2.2.2.1;omega) e,by rw[wo];omega,λi xs e=>kk _ _ (α4 e rfl) (αp e rfl) e⟩;rw[e]at q
  exists q
  rw[show(if(En.mk d.nm k (pv p) _<|lf0 k).nm=d.nm then h1.l else a (En.mk d.nm k (pv p) _<|lf0 k).nm)=h1.l from if_pos rfl]
  show((la.at (vk _) λi o L e=>aI e ?_).2.low (by rw[l1];show vz f.lo.1<|yw (εS 0).1),WR l1.symm);let(o3,(pf),_):=iH i4;have:=(vg.mp pf).1;omega
abbrev upE(E:k_ En)(x:Nm)(g:En->En):k_ En:=E.map λe=>if e.nm=x then g e else e
def vT(nd:(E.map (·.nm)).Nodup){y:En}(u:e∈E)(hy:y∈E)(z:y.nm=e.nm):y=e:=by
 induction E with
 |nil=>cases u
 |cons u E ih=>
  rw[wq,Vp]at nd;rcases v8.mp u with u|u <;> rcases v8.mp hy with h2|h2
  ·rw[u,h2]
  ·show absurd (v7.mpr ⟨y,h2,z.trans<|congrArg En.nm u⟩) nd.1
  ·show absurd (v7.mpr ⟨e,u,z.symm.trans<|congrArg En.nm h2⟩) nd.1
  ·show ih nd.2 u h2
variable{g:En->En}
def FL(n:∀e,(g e).nm=e.nm):(Zz g).map (·.nm)=E.map (·.nm):=by
 unfold upE;rw[w9];apply y4;intro e _
 change(if e.nm=x then g e else e).nm=e.nm
 split
 ·show n e
 ·rfl
def xW{y:En}(Y:y∈Zz g):∃e∈E,(e.nm=x/\y=g e)\/(e.nm≠x/\y=e):=by
 let(e,H,rfl):=v7.mp Y;by_cases c:e.nm=x
 ·show(e,H,.inl ⟨c,Za 0⟩)
 ·show(e,H,.inr ⟨c,βh 0⟩)
def Ld(gn:∀e,(g e).nm=e.nm)(gl:∀e,(g e).lf.isSome=e.lf.isSome):α3 (Zz g)=α3 E:=by
 induction E with
 |nil=>rfl
 |cons e E ih=>
  let n1:(if e.nm=x then g e else e).nm=e.nm:=by split;show gn e;rfl
  let n2:(if e.nm=x then g e else e).lf.isSome=e.lf.isSome:=by split;show gl e;rfl
  let ih:((Zz g).filter λe=>e.lf.isSome).map (λe=>(e.nm,PV.ref _))=(E.filter λe=>e.lf.isSome).map (λe=>(e.nm,PV.ref _)):=ih
  change(((if e.nm=x then g e else e)::Zz g).filter λe=>e.lf.isSome).map (λe=>(e.nm,PV.ref _))=((e::E).filter λe=>e.lf.isSome).map (λe=>(e.nm,PV.ref _))
  by_cases c:e.lf.isSome=true
  ·rw[W1 (p:=λe:En=>e.lf.isSome) c,W1 (p:=λe:En=>e.lf.isSome)<|n2.trans c,wq,wq,n1,ih]
  ·rw[W2 (p:=λe:En=>e.lf.isSome) c,W2 (by rw[n2];show c),ih]
def To(d:(E.map (·.nm)).Nodup)(q:fnd (tE E) x=a8 e)(n:∀e,(g e).nm=e.nm):sZ (mdL E) x (eU<|g e)=mdL (Zz g):=by
 let(H,X):=cL q;unfold sZ;rw[vS,q];unfold mdL upE;rw[w9,w9];apply y4;intro y Y
 change(if y.nm=x then(y.nm,eU<|g e) else _)=((if y.nm=x then g y else y).nm,eU<|if y.nm=x then g y else y)
 by_cases c:y.nm=x
 ·rw[Za 0,Za 0,n,vT d H Y<|c.trans X.symm]
 ·rw[βh 0,βh 0]
def FS.upT{lt:Nat}(f:c_ E)(n:∀e,(g e).nm=e.nm)(G:∀e,(g e).lf=e.lf)(k:∀(i) o,i≠lm->h[i]?=a8 o->h'[i]?=a8 o)(d:aV h' lm=a8 ((mdL<|upE E x g).map<|dX id)):X5 a (Zz g):=by
 let r:∀{y},y∈Zz g->∃e∈E,y.nm=e.nm/\y.lf=e.lf:=λ{y} H=>by
  obtain⟨e,t,⟨_,rfl⟩|⟨_,rfl⟩⟩:=xW H
  ·show I1c e t (n e) (G e)
  ·show I1c y t rfl rfl
 show(q7 (α4 f.fo rfl) f.fo,q7 (α4 f.ti rfl) f.ti,q7 (α4 f.ls rfl) f.ls,d,?_,λy H L q=>?_,λy H z Z Q j e=>?_,f.ne,?_,λy H=>?_,?_,f.lo.1,f.lo.2.1,f.lo.2.2.1,f.lo.2.2.2.1,f.lo.2.2.2.2.1,λy H q=>?_)
 ·rw[Ld n λe=>by rw[G e]];show bF f.lv λo=>k _ o<|xy f.ne
 ·let(e,(t),p,m):=r H;rw[p];show f.leaf (λi o I _=>k i o I) t<|m▸q
 ·let(u,(U),w,s):=r H;let(v,(V),c,Y):=r Z;rw[w,c]at e⊢;show f.aj u U v V (s▸Q) (Y▸j) e
 ·rw[FL n];show f.nd
 ·let(u,(U),w,s):=r H;rw[w];show f.ro u U
 ·unfold upE;rw[vn];show f.ln
 ·let(u,(U),w,s):=r H;rw[w];show f.lo.2.2.2.2.2 u U<|s▸q
def GR{lt:Nat}(f:c_ E)(q:fnd (tE E) x=a8 e){hd sp:PV}(K:∀z,FS b z l lt lm lf ll a (upE E x λe=>{ e with hd:=hd,sp:=sp})->εT z->Q .non z):(sI [.ref lt,pv x,hd,sp] h).W Q:=by
 show W_fn ?_;unfold sH;let p:gW _ (pv x) (.tup [.str e.kd,hd,sp]) h=a8 (δu<|.dD<|dW ((mdL E).map _) (pv x)<|id _):=jW f.md rfl (by rw[vn,mdL,vn];have:=f.ln;omega);rw[AD,show PV.tup [.str e.kd,hd,sp]=eU { e with hd:=hd,sp:=sp} from rfl,To (g:=λe=>{ e with hd:=hd,sp:=sp}) f.nd q λ_=>rfl]at p
 let(O,(H),_):=iH f.md;let k:∀(i) o,i≠lm->h[i]?=a8 o->(δu<|.dD<|(mdL<|upE E x λe=>{ e with hd:=hd,sp:=sp}).map (dX id))[i]?=a8 o:=λi o I e=>aI e<|xy I;let t:=f.atM q;unfold eU at t p;simp[f.fm,t];show(_,p,K _ (f.upT (λ_=>rfl) (λ_=>rfl) k<|eY<|aR H) ⟨λi o I e=>k i o (by have:=f.lo.2.2.1;omega) e,by rw[wo];show vk _,λi s e=>q7 (α4 e rfl) e⟩)
def AF(e:h[n]?=a8 (.lst xs)):tru (.ref n) h=.ok (!xs.isEmpty) h:=by simp[tru,e,aJ]
def Le{lt:Nat}(f:c_ E):fnd (tE E) root=a9:=by
 cases q:fnd _ root with
 |none=>rfl
 |some e=>exact absurd (cL q).2<|f.ro e (cL q).1
def GS{lt:Nat}(f:c_ E)(k:∀n y,t_ y->y[n]?=a8 (.lst [])->Q (.ref n) y):(oY [.ref lt,pv x,pv root] h).W Q:=by show W_fn ?_;unfold oX;rw[aD];simp;rfl';rw[aD];simp;rfl';rw[aD];let X:t_ (h++[MO.lst []]):=m_ _;let F:=f.keep X;generalize h++[MO.lst []]=h1 at X F⊢;show GP (λm z y=>m=0/\y=h1/\z=[a8 _,a8 _,a8 _,a8 _,a8 _]) (λm z y i=>?_) 1000000 0 (by decide) _ _ ⟨rfl,rfl,rfl⟩;let(rfl,rfl,rfl):=i;let H:=F.hasM root;rw[Le F]at H;simp[F.fm,H];rfl';simp;show q7 (X.trans<|Ext.app _ _) aE
def Eb{lt:Nat}(f:c_ E){d:Dd}{r:E_ 0}(e:d.act=.str w::r)(H:w="drop" \/ w="move")(k:(kE [.ref lt,dP d] h).W λv I=>v=.str "done" /\ Q v I):(bL [.ref l,dP d] h).W Q:=by
 let n1:¬ w="make" := by rcases H with rfl|rfl <;> decide +kernel
 show W_fn ?_;unfold cS;rw[aD];simp[dP2];rfl';rw[aD];let i:βE 0=a8 (.str w):=by simp_all
 let I:(w="make" \/ w="move" \/ w="drop"):=by rcases H with rfl|rfl;show .inr<|.inr rfl;show .inr<|.inl rfl
 simp[i,inT,I,mM,mMx "hear_tree" f.fo rfl,nI];show W_fn ?_;unfold cN;rw[aD];simp[mM,mMx "hear" f.ti rfl,CA,f.ft];show Cg k λv I V=>?_;let(rfl,q):=V;rfl';rw[aD];simp[dP2];rfl';rw[aD];simp[i,n1];rfl';simp;show q
def Lg{lt:Nat}(f:c_ E){d:Dd}(A:d.act=[.str "drop",pv x])(q:fnd (tE E) x=a8 e)(k:∀z,FS b z l lt lm lf ll a (upE E x λe=>{ e with hd:=.non,sp:=.non})->εT z->Q (.str "done") z):(bL [.ref l,dP d] h).W Q:=by
 show Eb f A (.inl rfl) ?_;let D:dP d=.tup [ZH 0,γg 0,.tup [.str "drop",pv x]]:=by unfold dP;rw[A]
 show W_fn ?_;unfold gZ;rw[aD,D];simp;rfl';rw[aD];simp;rfl';rw[aD];let H:=f.hasMn x;rw[q]at H;simp[f.fm,H];rfl';rw[aD];simp;rw[aD];simp[mM,mMx "put" f.ti rfl,Cz];show GR f q λz F r=>now ?_;simp;show k z F r
def Lh{lt:Nat}(f:c_ E){d:Dd}{z:Str}(A:d.act=[.str "move",pv x,pv root,.str z])(q:fnd (tE E) x=a8 e)(k:∀n,FS b n l lt lm lf ll a (upE E x λe=>{ e with hd:=pv root,sp:=.str z})->εT n->Q (.str "done") n):(bL [.ref l,dP d] h).W Q:=by
 show Eb f A (.inr rfl) ?_;let D:dP d=.tup [ZH 0,γg 0,.tup [.str "move",pv x,pv root,.str z]]:=by unfold dP;rw[A]
 let sp:E8 E root _:=.inl ⟨by unfold aY;rw[if_pos rfl],z,rfl⟩;show W_fn ?_;unfold gZ;rw[aD,D];simp;rfl';rw[aD];simp;rfl';rw[aD];let w:=f.hasMn x;rw[q]at w;simp[f.fm,w];rfl';rw[aD];simp;rfl';simp[mM,mMx "hear_move" f.ti rfl,uJ];show W_fn ?_;unfold fV;rw[aD];simp;rfl';rw[aD];simp[mM,mMx "takes" f.ti rfl,jD,(uO f<|sp.imp id λq=>⟨q.1,_,q.2⟩)];rfl';rw[aD];simp[mM,mMx "ring" f.ti rfl,xQ];show GS f λn H H G=>?_;let F:=f.keep H;simp[AF G];rfl';rw[aD];simp[E9 sp,mM,mMx "put" F.ti rfl,Cz];show GR F q λn y r=>now ?_;simp;show k n y ⟨λi o I e=>r.1 i o I<|H _ _ e,vz H.len r.2.1,λi xs e=>r.2.2 _ _<|H _ _ e⟩
abbrev kdL:Lf->Str
 |.cnt _=>"count"
 |.cho _=>"choice"
 |.bag _=>"bag"
 |.txt=>"text"
def OE(e:E7 w L)(h):eM [.str w] h=.ok (.str<|kdL L) h:=by
 let wh:(eM [.str w] h).W λq n=>q=.str (kdL L)/\n=h:=by
  show W_fn ?_;unfold mY;let n:¬ (v3 "add")="choose" /\ ¬ (v3 "add")="put" /\ ¬ (v3 "choose")="put" /\ ¬ (v3 "add")="take" /\ ¬ (v3 "choose")="take" /\ ¬ (v3 "put")="take" := by decide +kernel
  cases L with
  |cnt i=>subst e;simp[vGd,wQ,gdV,kdL]
  |cho i=>subst e;simp[vGd,wQ,gdV,kdL,n]
  |bag i=>rcases e with rfl|rfl <;> simp[vGd,wQ,gdV,kdL,n]
  |txt=>exact e.elim
 let(q,n,(e),z0,z1):=cU wh;subst z0;subst z1;show e
def OF(h:E7 w L):¬ (w="make" \/ w="move" \/ w="drop")/\¬ (w="back" \/ w="settle"):=by
 cases L with
 |cnt i=>cases h;decide +kernel
 |cho i=>cases h;decide +kernel
 |bag i=>rcases h with rfl|rfl <;> decide +kernel
 |txt=>exact h.elim
def NS:(e.lf.map<|CJ nm w v).isSome=e.lf.isSome:=Vv
section
variable{lt:Nat}
abbrev lfC:Lf->Str
 |.cnt _=>"Count"
 |.cho _=>"Choice"
 |.bag _=>"Bag"
 |.txt=>"Text"
def lH.ins{c:Nat}{L:Lf}(x:ζC L):∃f,h[c]?=a8 (.ins (lfC L) f):=by
 cases L with
 |cnt i=>exact⟨_,x⟩
 |cho r=>let⟨s,a,b⟩:=x;show(_,a)
 |bag r=>let⟨s,a,b⟩:=x;show(_,a)
 |txt=>let⟨g,m,t,s,a,b,c,d,e⟩:=x;show(_,a)
def NT(n:∀e,(g e).nm=e.nm)(r:∀e,eU (g e)=eU e):mdL (Zz g)=mdL E:=by
 unfold mdL upE;rw[w9];apply y4;intro y _
 change((if y.nm=x then g y else y).nm,eU<|if y.nm=x then g y else y)=(y.nm,eU y)
 split
 ·rw[n,r]
 ·rfl
def FS.upL(f:c_ E){L':Lf}(q:fnd (tE E) x=a8 e)(R:e.lf=a8 L)(j:lfC L≠"Signs" /\ lfC L≠"Marks" /\ lfC L≠"Folding" /\ lfC L≠"Tree")(k:∀(i) o,i≠a x->h[i]?=a8 o->h'[i]?=a8 o)(nw:γ3 (a x) L')(G:∀e,(g e).nm=e.nm)(D:∀e,eU (g e)=eU e)(J:(g e).lf=a8 L')(P:∀e,(g e).lf.isSome=e.lf.isSome):X5 a (Zz g):=by
 let(w,X):=cL q;let(F,I):=(f.le e w L R).ins;rw[X]at I;let N:∀{i:Nat}{o:MO},h[i]?=a8 o->(∀F,o≠.ins _ F)->i≠a x:=λ{i o} e z y=>by rw[y,I]at e;exists e;show z _ rfl
 let M:∀{n:Nat}{K},Zr n=a8 K->aV h' n=a8 K:=λ{n K} t=>bF t λo e=>q7 (by
  let(o',(d),Q,_):=iH t;intro z;rw[z,I]at d
  exists d
  exists Q) e
 let O:∀{y},y∈Zz g->∃e∈E,y.nm=e.nm/\y.lf.isSome=e.lf.isSome:=λ{y} Y=>by
  obtain⟨e,w,⟨_,rfl⟩|⟨_,rfl⟩⟩:=xW Y
  ·show I1c e w (G e) (P e)
  ·show I1c y w rfl rfl
 show(q7 (N f.fo λ_ z=>j.2.2.1 (by injection z with z;show z.symm)) f.fo,q7 (N f.ti λ_ z=>j.2.2.2 (by injection z with z;show z.symm)) f.ti,q7 (N f.ls λ_=>nofun) f.ls,?_,?_,λy Y T Q=>?_,λy Y z hz d Q e=>?_,f.ne,?_,λy Y=>?_,?_,f.lo.1,f.lo.2.1,f.lo.2.2.1,f.lo.2.2.2.1,f.lo.2.2.2.2.1,λy Y q=>?_)
 ·rw[NT G D];show M f.md
 ·rw[Ld G P];show M f.lv
 ·obtain⟨u,H,⟨U,rfl⟩|⟨U,rfl⟩⟩:=xW Y
  ·have:=vT f.nd w H<|U.trans X.symm;subst this;rw[J]at Q;cases Q
   rw[G,X];show nw
  ·let W:=f.le y H T Q;let A:=λz=>U (by have:=f.aj y H e w (by rw[Q];rfl) (by rw[R];rfl) (by rw[X];show z);rw[this,X]);cases T with
   |cnt i=>exact q7 A W
   |cho r=>let⟨s,p,c,C⟩:=W;show(s,q7 A p,q7 (N c λ_=>nofun) c,C)
   |bag r=>let⟨s,p,c,C⟩:=W;show(s,q7 A p,q7 (N c λ_=>nofun) c,C)
   |txt=>show E4e W λg m t' s p c C S V=>?_;show I4f g m t' s (q7 A p) (q7 (N c λ_ z=>j.1 (by injection z with z;show z.symm)) c) (q7 (N C λ_=>nofun) C) (q7 (N S λ_ z=>j.2.1 (by injection z with z;show z.symm)) S) (q7 (N V.1 λ_=>nofun) V.1) V.2
 ·let(u,(H),U,Z):=O Y;let(v,(B),v1,v2):=O hz;rw[U,v1]at e⊢;show f.aj u H v B (Z▸d) (v2▸Q) e
 ·rw[FL G];show f.nd
 ·let(u,(H),U,Z):=O Y;rw[U];show f.ro u H
 ·unfold upE;rw[vn];show f.ln
 ·let(u,(H),U,Z):=O Y;rw[U];show f.lo.2.2.2.2.2 u H<|Z▸q
def Tp(L):lfC L≠"Signs" /\ lfC L≠"Marks" /\ lfC L≠"Folding" /\ lfC L≠"Tree" := by
 have:∀z∈([("Count" : Str),"Choice","Bag","Text"]:S2 0),z≠"Signs" /\ z≠"Marks" /\ z≠"Folding" /\ z≠"Tree" := by decide +kernel
 show this _ (by cases L <;> simp[lfC])
def Li(f:c_ E){d:Dd}(u:d.act=[.str w,pv x,.int v])(q:fnd (tE E) x=a8 e)(y:e.lf=a8 L)(K:e.kd=kdL L)(H:E7 w L)(C:Cvd d.seen L)(R:(ζD 0).length<=60)(U:∀g,FS b g l lt lm lf ll a (upE E x λe=>{ e with lf:=e.lf.map (CJ d.nm w v)})->εT g->Q (.str "done") g):(bL [.ref l,dP d] h).W Q:=by
 let(T,S):=OF H;let(j,X):=cL q;let c:βE 0=a8 (.str w):=by rw[u];show hQ rfl
 let I:βE 1=a8 (pv x):=by rw[u];show hQ rfl
 let D:γH x=.str (kdL L):=by unfold aY;rw[if_neg<|λz=>f.ro e j<|X.trans z,q,<-K]
 let O:=f.lo.2.2.2.2.2 e j (by rw[y];rfl);rw[X]at O;let A:=f.le e j L y;rw[X]at A;let n:=λg k p N=>by show U g (f.upL q y (Tp L) k p (λ_=>rfl) (λ_=>rfl) (by rw[y];rfl) λ_=>NS) ⟨λi o Y e=>k i o ⋯ e,N,λi M e=>q7 (λz=>by let(F,G):=A.ins;rw[z,G]at e;cases e) e⟩
 show W_fn ?_;unfold cS;rw[aD];simp[dP2];rfl';rw[aD];simp[c,inT,T];rfl';rw[aD];simp[c,inB,S];rw[aD];simp[c,I,mM,mMx "kind_of" f.ti rfl,bX,f.ft,qO f,D,OE H];rfl';let m:=f.atL q (by rw[y];rfl);cases L with
 |cnt i=>
  cases H
  simp[I,mM,mMx "hear" A rfl,nJ,f.fl,m];show KY u A <|now ?_;simp;show n _ (λi o Y e=>aI e<|xy Y) (aR A) (by simp)
 |cho r=>
  cases H
  let(s,(t),Z,_):=A;simp[I,mM,mMx "hear" t rfl,nJ,f.fl,m,V];show FJ (vz f.lo.1<|yw (εS 0).1) u C R t Z λg k p N=>now ?_;simp;show n _ k p N
 |bag r=>show E1c A λs t Z _=>?_;simp[I,mM,mMx "hear" t rfl,nJ,f.fl,m,V];show FK (vz f.lo.1<|yw (εS 0).1) H u C R t Z λg k p N=>now ?_;simp;show n _ k p N
 |txt=>exact H.elim
end
inductive Ak where
 |settle
 |make (k:Str) (p:Nm) (z:PV)
 |drop (t:Nm)
 |move (t:Nm) (z:Str)
 |leaf (w:Str) (t:Nm) (v:Int)
abbrev akP:Ak->E_ 0
 |.settle=>[.str "settle"]
 |.make k p z=>[.str "make",.str k,pv p,z]
 |.drop t=>[.str "drop",pv t]
 |.move t z=>[.str "move",pv t,pv root,.str z]
 |.leaf w t v=>[.str w,pv t,.int v]
abbrev rH(E:k_ En)(nm:Nm):Ak->k_ En
 |.settle=>E
 |.make k p z=>E++[⟨nm,k,pv p,fN z nm,lf0 k⟩]
 |.drop t=>upE E t λe=>{ e with hd:=.non,sp:=.non}
 |.move t z=>upE E t λe=>{ e with hd:=pv root,sp:=.str z}
 |.leaf w t v=>upE E t λe=>{ e with lf:=e.lf.map (CJ nm w v)}
abbrev Tq(E:k_ En)(S:Seen)(nm:Nm):Ak->Prop
 |.settle=>True
 |.make k p z=>fnd (tE E) nm=a9/\nm≠root/\Ea k/\E8 E p z/\E.l<60
 |.drop t=>∃e,fnd (tE E) t=a8 e
 |.move t _=>∃e,fnd (tE E) t=a8 e
 |.leaf w t _=>∃e L,fnd (tE E) t=a8 e/\e.lf=a8 L/\e.kd=kdL L/\E7 w L/\Cvd S L/\(ζD 0).length<=60
open H in
def GT{lt:Nat}(f:c_ E){d:Dd}{A:Ak}(y:d.act=akP A)(o:Tq E d.seen d.nm A)(K:∀H x,FS b H l lt lm lf ll x (rH E d.nm A)->εT H->Q (.str "done") H):(bL [.ref l,dP d] h).W Q:=by
 cases A with
 |settle=>
  show W_fn ?_;unfold cS;let i:βE 0=a8 (.str "settle"):=by rw[y];show hQ rfl
  let n:¬ ((v3 "settle")="make" \/ (v3 "settle")="move" \/ (v3 "settle")="drop"):=by decide +kernel
  rw[aD];simp[dP2];rfl';rw[aD];simp[i,inT,n];rfl';rw[aD];simp[i,inB];rfl';simp;show K h a f ⟨λ_ _ _ e=>e,vk _,λ_ _ e=>e⟩
 |make k p z=>exact Lc f y o.1 o.2.1 o.2.2.1 o.2.2.2.1 o.2.2.2.2 K
 |drop t=>let⟨e,q⟩:=o;show Lg f y q λH=>K H a
 |move t z=>let⟨e,q⟩:=o;show Lh f y q λH=>K H a
 |leaf w t v=>let⟨e,L,u,s,r,m,j,c⟩:=o;show Li f y u s r m j c λH=>K H a
open H in
def AG(e:Zr n=εR 0):∃o,h[n]?=a8 o/\B7 (a8 o)=true/\rW o=a8 (kvs.map λv=>.tup [v.1,v.2]):=by
 unfold aV at e;split at e
 ·rename_i k H;exists e;show βw H rfl rfl
 ·rename_i H;exists e;show βw H rfl rfl
 ·exists e
abbrev B9(x:Nm):γ7 0:=[.inr x.1,.inl x.2]
def BR(t:k_ Nm):zS (t.map B9)=true:=by
 unfold zS;cases t with
 |nil=>rfl
 |cons x M=>simp[B9];show λ_ _ _=>⟨rfl,rfl⟩
def Ec{a b:Nm}(e:B9 a=B9 b):a=b:=by unfold B9 at e;simp at e;show Prod.ext e.1 e.2
abbrev nT(e:En):PV:=.tup [εa 0,.str e.kd,e.hd,e.sp]
abbrev Srt(E:k_ En):Prop:=E.Pairwise λa b=>rN (B9 b.nm) (B9 a.nm)=false
variable{os:k_ En}
def NU(p:os.Perm E)(n:(E.map (·.nm)).Nodup)(h1:Srt os)(h:Srt E):os=E:=XD (λa b H B h1 h=>vT n B (p.mem_iff.mp H)<|Ec<|yU rfl h h1) h1 h p
def Lj{lt:Nat}(f:c_ E)(s:Srt E)(k:∀L H,t_ H->H[L]?=a8 (.lst<|E.map nT)->Q (.ref L) H):(pM [.ref lt] h).W Q:=by
 show W_fn ?_;unfold pL;let q:=f.ln;let(o,(O),D,I):=AG f.md;let i:rW o=a8 (E.map λy=>.tup [pv y.nm,eU y]):=by rw[I,w9,mdL,w9];rfl
 let t:cE _ h=true:=(let ⟨_,_,d,_⟩:=gR f.md;d);let z:βO (mUn (aK "made")<|mV 0) [a_ lt] h=.ok (.ref h.l) (h++[.vw 0 lm]):=by simp[f.fm,t,mW O D]
 let c:=Ad (js:=[a9,a9]) (tg:=ZE<|gCn (gN 0)<|gCn (gN 1) gNl) (tst:=dU) (elt:=Y5 (aX<|aA (mV 0) aC)<|mV 1) (δ:=[a8 _]) (λy=>a8<|nT y) z aE i (by rw[O];show D) (ZN O) ⋯
  (λy Y=>⟨[a8 (pv y.nm),a8 (eU y)],by simp[eE],λh=>⟨rfl,by
   have:aU (.tup [pv y.nm]) (eU y) h=.ok (nT y) h:=by rfl
   simp[this]⟩⟩)
 rw[filterMap_some]at c;let x:t_ (h++[Z2 0]++[MO.lst<|E.map nT]):=(m_ _).trans<|Ext.app _ _;let g:(h++[Z2 0]++[MO.lst<|E.map nT])[(h++[Z2 0]).length]?=a8 (.lst _):=aE;generalize (h++[Z2 0]).length=l1 at c g;generalize h++[Z2 0]++[MO.lst _]=h1 at c g x;simp[c];let u:zS (E.map λe=>B9 e.nm)=true:=by have:=BR (E.map (·.nm));rwa[w9]at this
 let v:(E.map λe=>B9 e.nm).Nodup:=by let N:=f.nd;unfold List.Nodup at N⊢;rw[yy]at N⊢;show N.imp λn e=>n<|Ec e
 show xP (S:=shape [.inr "",.inl 0]) (rS g) ⋯ u (λ_ _=>rfl) v (λd D h Q K=>?_) λm H X p r=>?_
 ·show W_fn ?_;unfold pJ;have:vIx (nT d) (.int 0) h=.ok (tP<|B9 d.nm) h:=by unfold nT;simp;rfl
  simp[this];show K h<|Ext.refl _
 ·let w:=NU p f.nd (by assumption) s;rw[w];show q7 (x.trans<|X.trans<|Ext.app _ _) aE
def Lk{lt:Nat}(f:c_ E):kG [.ref lt] h=.ok (.ref h.l) (h++[.lst []]):=by
 let w:(kG [.ref lt] h).W λq H=>q=.ref h.l/\H=h++[.lst []]:=by show W_fn ?_;unfold pO;let F:aK "failed" (.ref lt) h=.ok _ h:=aP f.ti rfl;simp[F,dJ f.ls]
 let(q,H,(e),z0,z1):=cU w;subst z0;subst z1;show e
variable{elt:Me}{js:k_ (l7 Nat)}{mi:Mi}
def NV{g:PH->Bool}(P:Nat->PV->PH->Prop)(e:mi δ h=.ok ⟨xs,g⟩ h1)(n:∀h,YQ h->g h=true)(hz:xs.l<=16777216)(m:∀i v h H,(∀(j) o,j≠h1.l->h[j]?=a8 o->H[j]?=a8 o)->P i v h->P i v H)(t:∀i x,xs[i]?=a8 x->∃y,tg x (γe 0)=a8 y/\∀h,YQ h->h1.l<h.l->∀Q,(∀v H,t_ H->P i v H->Q v H)->(elt y h).W Q)(k:∀H(s),YQ H->s.l=xs.l->H[h1.length]?=a8 (.lst s)->(∀i v,s[i]?=a8 v->P i v H)->Q (.ref h1.l) H):(δt tg dU elt δ h).W Q:=by
 unfold bK;rw[e];show Ck (λi H=>YQ H/\h1.l<H.l/\∃s,s.l=i/\H[h1.length]?=a8 (.lst s)/\∀i v,s[i]?=a8 v->P i v H) xs 0 _ ⟨m_ _,by simp,[],rfl,by simp,λi v V=>by simp at V⟩ (λi x H _ q I=>?_) (λH I=>?_)
 ·let(X,L,s,l,G,O):=I;let q:xs[i]?=a8 x:=by simpa using q
  let f:=(vg.mp q).1;let(y,(T),S):=t i x q;show(n _ X,y,T,?_);let Y:dU y H=.ok true H:=rfl;rw[Y,iX];show S H X L _ λv p r d=>?_;show(_,r _ _ G,⋯,(X.trans r).setN<|vk _,by rw[wo];show wb L r.len,s++[v],by simp[l],aR<|r _ _ G,λj w u=>m _ _ _ _ (λj o J e=>aI e<|xy J) ?_);rcases Nat.lt_trichotomy j _ with z|z|z
  ·rw[ya z]at u;show m _ _ _ _ (λj o _ e=>r _ _ e)<|O j w u
  ·rw[z,zi<|vk _,Nat.sub_self]at u;cases u
   rw[z,l];show d
  ·have:=(vg.mp u).1;simp at this;omega
 ·let(X,L,s,l,G,O):=I;rw[VC]at l;show(n _ X,k _ s X l G O)
abbrev qC(n:Nat)(h:PH):l7 Lf->PV->Prop
 |none,v=>v=.non
 |some (.cnt i),v=>v=.int i
 |some (.cho r),v=>∃s,v=.ref s/\s≠n/\h[s]?=a8 (.lst<|r.map rw2)
 |some (.bag r),v=>∃s,v=.ref s/\s≠n/\h[s]?=a8 (.lst<|r.map rw2)
 |some .txt,v=>∃s t,v=.tup [.ref s,.ref t]/\s≠n/\t≠n/\h[s]?=a8 (.lst [])/\h[t]?=a8 (.lst [])
variable{o:l7 Lf}
def qC.mono{v:PV}(k:∀(j) o,j≠n->h[j]?=a8 o->h'[j]?=a8 o)(c:qC n h o v):qC n h' o v:=by
 cases o with
 |none=>exact c
 |some L=>
  cases L with
  |cnt i=>exact c
  |cho r=>let⟨s,y,C,z⟩:=c;show(s,y,C,q7 C z)
  |bag r=>let⟨s,y,C,z⟩:=c;show(s,y,C,q7 C z)
  |txt=>let⟨s,t,y,C,z,x,w⟩:=c;show I2e s t y C z (q7 C x)<|k _ _ z w
def AH{g kk:Nat}(L:h[g]?=a8 (.ins "Signs" [("kept",.ref kk)]))(l:h[kk]?=a8 (.dK [])):∃n H,fC [.ref g] h=.ok (.ref n) H/\t_ H/\h.l<=n/\H[n]?=a8 (.lst []):=by
 let w:(fC [.ref g] h).W λq H=>∃n,q=.ref n/\t_ H/\h.l<=n/\H[n]?=a8 (.lst []):=by
  show W_fn ?_;unfold nL;let F:aK "kept" (.ref g) h=.ok _ h:=aP L rfl;let i:cE (.ref kk) h=true:=by simp[cE,l]
  let v:=DV (f:=sP) (b:=false) aE<|(m_ _) _ _ l;simp[F,i,mW l rfl,v];show m_ _
 let(q,H,e,n,rfl,z):=cU w;show I2b n H e z
variable{m:Nat}
def Ll(L:h[m]?=a8 (.ins "Marks" [("standing",.ref s)]))(z:h[s]?=a8 (.lst [])):iN [.ref m] h=.ok (.ref h.l) (h++[.lst []]):=by
 let w:(iN [.ref m] h).W λq y=>q=.ref h.l/\y=h++[.lst []]:=by show W_fn ?_;unfold nK;let f:aK "standing" (.ref m) h=.ok _ h:=aP L rfl;simp[cP (js:=[a9]) (tg:=gN 0) (tst:=dU) (elt:=Y5 (mSl (mV 0) kM<|mP<|e_ 4)<|aX<|aA (β2<|aA (o_ (mV 0)<|e_ 4) aC) aC) (m:=mUn (aK "standing")<|mV 0) (δ:=[a_ m]) (h:=h) (ys:=[]) (emb:=id) (λ_=>a9) (by simp[f]) z (by decide)<|λd H=>by cases H]
 let(q,y,(e),z0,z1):=cU w;subst z0;subst z1;show e
def QK(q:n<h.l)(A:ζC L)(e:εF h=.ok (.ref c) h)(k:∀v x,t_ x->qC n x (a8 L) v->Q v x):(aH "content" 0 dN mo aC δ h).W Q:=by
 let N:¬ (v3 "Choice")="Count" /\ ¬ (v3 "Bag")="Count" /\ ¬ (v3 "Bag")="Choice" /\ ¬ (v3 "Text")="Count" /\ ¬ (v3 "Text")="Choice" /\ ¬ (v3 "Text")="Bag" := by decide +kernel
 let M:¬ (v3 "Signs")="Marks" := by decide +kernel
 let u:=Io q;cases L with
 |cnt i=>have f:aK "total" (.ref c) h=.ok _ h:=aP A rfl;simp[mM,e,mMx "content" A rfl,dN];show W_fn ?_;unfold iG;simp[f];show q7 (βD 0) rfl
 |cho r=>let⟨s,z,y,_⟩:=A;let f:aK "standing" (.ref c) h=.ok _ h:=aP z rfl;simp[mM,e,mMx "content" z rfl,dN,N];show W_fn ?_;unfold fW;simp[f,dJ y];show q7 (m_ _) ⟨_,rfl,u,aE⟩
 |bag r=>let⟨s,z,y,_⟩:=A;let f:aK "standing" (.ref c) h=.ok _ h:=aP z rfl;simp[mM,e,mMx "content" z rfl,dN,N];show W_fn ?_;unfold kX;simp[f,dJ y];show q7 (m_ _) ⟨_,rfl,u,aE⟩
 |txt=>show E4e A λg m K s z y p w o=>?_;simp[mM,e,mMx "content" z rfl,dN,N];show W_fn ?_;unfold jI;let f:aK "signs" (.ref c) h=.ok _ h:=aP z rfl;let(j,H,(t),X,B,G):=AH y p;let F:aK "marks" (.ref c) H=.ok _ H:=aP (βg z) rfl;simp[mM,f,mMx "rows" y rfl,CB,M,t,F,mMx "rows" (βg w) rfl,(Ll (βg w)<|X _ _ o.1)];have:=X.len;show q7 (X.trans<|Ext.app _ _)<|I2e j H.l rfl ⋯ ⋯ (ZN G) aE
abbrev Ed(e:En)(w:PV):PV:=.tup [εa 0,.str e.kd,e.hd,e.sp,w]
abbrev kH(h:PH)(r:Nat)(E:k_ En):Prop:=∃vs:E_ 0,h[r]?=a8 (.lst vs)/\vs.l=E.l/\∀(i:Nat) v,vs[i]?=a8 v->∃e w,E[i]?=a8 e/\v=Ed e w/\qC r h e.lf w
def QL{lt:Nat}(f:c_ E)(q:fnd (tE E) x=a8 e)(N:n<h.l)(k:∀v y,t_ y->qC n y e.lf v->Q v y):(dQ [.ref l,pv x] h).W Q:=by
 show W_fn ?_;unfold dO;let H:=f.hasL x;rw[q]at H;let H:cI _ _ h=.ok (.bl e.lf.isSome) h:=H;cases z:e.lf with
 |none=>rw[z]at H k;simp[f.fl,H];show q7 (βD 0) rfl
 |some L=>
  let A:=f.le e (cL q).1 L z;rw[(cL q).2]at A;rw[z]at H k;rw[jT];have:(mIf (aN<|aB cI (mV 1)<|mUn (aK "leaves")<|mV 0) (aH "content" 0 dN (o_ (mUn (aK "leaves")<|mV 0)<|mV 1) aC)<|mC .non) [a_ l,a8<|pv x] h=aH "content" 0 dN (o_ (mUn (aK "leaves")<|mV 0)<|mV 1) aC [a_ l,a8<|pv x] h:=by simp[f.fl,H]
  change((mIf _ _ _) [a8 _,a8 _] h).W _
  rw[this];show QK N A (by simp[f.fl,(f.atL q (by rw[z];rfl))]) k
def vU(n:(E.map (·.nm)).Nodup)(H:e∈E):fnd (tE E) e.nm=a8 e:=by
 cases q:fnd _ e.nm with
 |none=>exact absurd rfl<|uQ q e H
 |some u=>rw[vT n H (cL q).1 (cL q).2]
def GU{lt:Nat}(f:c_ E)(s:Srt E)(k:∀r y g,t_ g->h.l<=r->kH g r E->r≠y->g[y]?=a8 (.lst [])->Q (.tup [.ref r,.ref y]) g):(jK [.ref l] h).W Q:=by
 show W_fn ?_;unfold jJ;let(v,H,Y,l1,rfl,X,G):=cU<|Lj f s (Q:=λv g=>∃L,v=.ref L/\t_ g/\g[L]?=a8 (.lst _)) λL g a b=>⟨L,rfl,a,b⟩;let lE:=f.ln;rw[jT]
 change((aX _) [a8 _] h).W _
 rw[qI,zG,dC,zG];show NV (λi v T=>∃e w,E[i]?=a8 e/\v=Ed e w/\qC _ T e.lf w) (Dr (by simp[mM,mMx "rows" f.ti rfl,Ax,f.ft,Y]) G) (zL G) (by rw[vn];omega) (λi v M hB S z0=>E2c z0 λe w z Z u=>(I2c e w z Z<|u.mono S)) (λi x d=>?_) λV J c P q O=>?_
 ·rw[wm]at d;let(e,m,rfl):=w8.mp d;show I1b [a8<|nT e,a_ l] (by simp[eE]) λp D R A K=>?_;let t:=f.keep<|X.trans D;let I:vIx (nT e) (.int 0) p=.ok (εa 0) p:=by unfold nT;simp
  simp[mM,mMx "content_of" t.fo rfl,rD,I];show QL t (vU f.nd<|xw m) R λw n B C=>?_;let N:aU (nT e) (.tup [w]) n=.ok (Ed e w) n:=rfl;simp[N];show βW B<|I2c e w m rfl C
 ·let F:=f.keep<|X.trans c;simp[mM,mMx "lost" F.ti rfl,GI,F.ft,Lk F];let l2:=(vg.mp q).1;show q7 _ ((X.trans c).trans<|Ext.app _ _) X.len (I1c J (ZN q) (by rw[P,vn]) λi v U=>?_) ⋯ aE;let(e,w,(z),Z,u):=O i v U;show I2c e w z Z<|u.mono λj o _ e=>ZN e
def GV{ds:k_ Dd}(nd:(ds.map (·.nm)).Nodup){a b:Dd}(x:a∈ds)(hb:b∈ds)(e:a.nm=b.nm):a=b:=by
 induction ds with
 |nil=>cases x
 |cons x ds ih=>
  rw[wq,Vp]at nd;rcases v8.mp x with x|x <;> rcases v8.mp hb with h2|h2
  ·rw[x,h2]
  ·show absurd (v7.mpr ⟨b,h2,e.symm.trans<|congrArg Dd.nm x⟩) nd.1
  ·show absurd (v7.mpr ⟨a,x,e.trans<|congrArg Dd.nm h2⟩) nd.1
  ·show ih nd.2 x h2
def Lm{xs ys:k_ Dd}(x:CD xs)(y:CD ys)(n:(xs.map (·.nm)).Nodup)(N:(ys.map (·.nm)).Nodup)(h:∀d,d∈xs↔d∈ys):xs=ys:=by show XD (λa b A B H z=>?_) x y ((List.perm_ext_iff_of_nodup ((yy.mp n).imp λh e=>h<|by rw[e])<|(yy.mp N).imp λh e=>h<|by rw[e]).mpr h);show GV n A ((h b).mpr B)<|KJ _ _<|yU rfl z H
abbrev aZ(own:Str)(i:Nat):Seen:=if i=0 then[] else[(own,(i:Int))]
abbrev kdA:Ak->Kd
 |.settle=>.settle
 |_=>.other
abbrev mkD(own:Str)(i:Nat)(A:Ak):Dd:=⟨(own,(i:Int)+1),YH i,kdA A,akP A⟩
abbrev dsF(own:Str):Nat->k_ Ak->k_ Dd
 |_,[]=>[]
 |i,A::As=>YA i A::dsF own (i+1) As
open H in
def AI(own)(i):tot (YH i)=i:=by
 unfold aZ;split
 ·rename_i h;rw[h];rfl
 ·simp[tot]
def qP{own:Str}:∀{As:k_ Ak}{i:Nat}{d:Dd},d∈ZA As->∃j A,i<=j/\j<i+As.l/\A∈As/\d=YA j A
 |A::As,i,d,h=>by
  rcases v8.mp h with rfl|h
  ·show I2d i A (vk _) (by simp) vo rfl
  ·let(j,B,(y),x,H,z):=qP h;show I2d j B ⋯ (by simp;omega) (εs H) z
def nU{own:Str}:∀{As:k_ Ak}{i:Nat},(ZA As).length=As.l
 |[],_=>rfl
 |A::As,i=>congrArg _ nU
variable{own:Str}
def Tr{j:Nat}{A B:Ak}(h:i<j):rN (kyL<|mkD own j B) (kyL<|mkD own i A)=false:=by unfold kyL rN;let t:tot (YA j B).seen=j:=AI own j;let T:tot (YA i A).seen=i:=AI own i;rw[if_neg (λz=>by have:=Sum.inl.inj z;omega)];show decide_eq_false ⋯
def Ee{own:Str}:∀{As:k_ Ak}{i:Nat},CD (ZA As)
 |[],_=>.nil
 | A :: As,i=>.cons (fun d H=>by let(j,B,(h),z,y,z0):=qP H;subst z0;show Tr h) Ee
variable{As:k_ Ak}
def CM:((ZA As).map (·.nm)).Nodup:=by
 induction As generalizing i with
 |nil=>exact W6
 |cons A As I=>
  change(((YA i A)::dsF own _ As).map _).Nodup
  rw[wq,Vp];show(λz=>?_,I);let(d,(h),e):=v7.mp z;let(j,B,(H),y,x,z0):=qP h;subst z0;have:=γX e;have:(j:Int)+1=(i)+1:=this;omega
def Ln{A:Ak}(p:(akP A).all (PV.pl 37)=true)(w:∀w t v,A=.leaf w t v->w≠"settle" /\ w≠"back"):Wf (YA i A):=by
 show(?_,?_,p)
 ·change(YH i).length<=100
  unfold aZ;split <;> simp
 ·cases A with
  |settle=>rfl
  |make k p z=>exact I2c ("make") _ rfl (by decide +kernel) (by decide +kernel)
  |drop t=>exact I2c ("drop") _ rfl (by decide +kernel) (by decide +kernel)
  |move t z=>exact I2c ("move") _ rfl (by decide +kernel) (by decide +kernel)
  |leaf W t v=>exact I2c W _ rfl ((w W t v rfl).1)<|(w W t v rfl).2
abbrev AJ(A:Ak):Prop:=(akP A).all (PV.pl 37)=true/\∀w t v,A=.leaf w t v->w≠"settle" /\ w≠"back"
def QM(p:∀A∈As,AJ A):∀d∈dsF own i As,Wf d:=λd H=>by let(j,B,(z),y,h,z0):=qP H;subst z0;show Ln (p B h).1 (p B h).2
def FM(p:∀A∈As,AJ A)(a:As.l<=63)(g:h[n]?=a8 (.lst<|(ZA As).map dP))(k:∀l H,t_ H->h.l<=l->H[l]?=a8 (.lst<|(ZA As).map dP)->Q (.ref l) H):(fS [.ref n] h).W Q:=by let z:=nU (own:=own) (As:=As) (i:=i);show CF _ _ (λ_ h=>h) ⋯ (QM p) ⋯ (λd D e E q=>GV CM D E q) n h g Q λo l H x L G N m r=>?_;rw[Lm r Ee N CM m]at G;show k l H x L G
variable{mv:Me}
def W_setV{f:Str}{fs:k_ (Str×PV)}{a:Nat}{r:Ev}{E:FE}{p:PV}(g:h[a]?=a8 (.ins cn fs))(l:fs.l<1000)(e:mv (a_ a::r) h=.ok p h1)(x:t_ h1)(k:∀H,(∀(i) o,i≠a->h1[i]?=a8 o->H[i]?=a8 o)->H[a]?=a8 (.ins cn<|jO f p fs)->H.l=h1.l->E.nx (a_ a::r) H):(bG f (mV 0) mv (a_ a::r) h).W E:=by rw[A8,e,iX];simp;show A0 (cR (YY g) l) (k _ (λi o I e=>aI e<|xy I) (aR<|x _ _ g)<|by simp)
def Lo(k:∀H x y,t_ H->H[h.length]?=a8 (.ins "Tree" [("made",x),("failed",y)])->Q (.ref h.l) H):(eG "Tree" 0 iD aC δ h).W Q:=by show nS rfl rfl <|W_fn ?_;unfold iC;let G:(h++[MO.ins "Tree" []])[h.length]?=a8 _:=aE;let X:t_ (h++[MO.ins "Tree" []]):=m_ _;generalize h++[MO.ins "Tree" []]=hA at G X;rw[aD];show W_setV G (by simp) Bv (m_ _) λB K g l=>now ?_;let g:B[h.length]?=a8 (.ins "Tree" [("made",.ref _)]):=g;show W_setV g (by simp) (p:=.ref B.l) (h1:=B++[.lst []]) (by simp) (m_ _) λz w C L=>?_;show(rfl,k z _ _ (λi o e=>have I:=(Y7 0).1;w _ _ ⋯ (Ext.app B [MO.lst []] _ _<|K _ _ ⋯ (Ext.app hA [MO.dK []] _ _<|X _ _ e))) C)
def NW(n:(E.map (·.nm)).Nodup){q:Nat}(y:E[q]?=a8 e):sZ (mdL<|E.take q) e.nm (eU e)=mdL (E.take<|q+1):=by
 let t:E.take (q+1)=E.take q++[e]:=by rw[Xp,y];rfl
 let o:fnd (mdL<|E.take q) e.nm=a9:=by
  rw[vS];cases z:fnd (tE _) e.nm with
  |none=>rfl
  |some u=>let⟨h,H⟩:=cL z;rw[<-List.take_append_drop _ E,t,yo,yo]at n;have:=(zq.mp (zq.mp n).1).2.2 u.nm (v7.mpr ⟨u,h,rfl⟩) e.nm (by simp);show α5 this
 rw[qB o,t];simp[mdL]
abbrev FI(h:PH)(l la lb lm:Nat)(E:k_ En)(q:Nat)(δ:Ev)(h':PH):Prop:=∃x3 x4 x5 x6,δ=[a_ l,a_ la,a_ lb,x3,x4,x5,x6]/\(∀(i:Nat) o,i≠lm->h[i]?=a8 o->h'[i]?=a8 o)/\h'.l=h.l/\aV h' lm=a8 ((mdL<|E.take q).map<|dX id)
variable{la:Nat}
def NX{lb:Nat}{x y:PV}(D:(E.map (·.nm)).Nodup)(R:E.l<=60)(g:h[l]?=a8 (.ins "Tree" [("made",x),("failed",y)]))(a:h[la]?=a8 (.lst<|E.map nT))(b:h[lb]?=a8 (.lst []))(k:∀m L H,(∀(i) o,i≠l->h[i]?=a8 o->H[i]?=a8 o)->h.l<=m->h.l<=L->h.l<=H.l->H[l]?=a8 (.ins "Tree" [("made",.ref m),("failed",.ref L)])->H[L]?=a8 (.lst [])->aV H m=a8 ((mdL E).map<|dX id)->Q .non H):(pB [.ref l,.ref la,.ref lb] h).W Q:=by
 let j:la≠l:=λz=>by subst z;rw[g]at a;cases a
 let Y:lb≠l:=λz=>by subst z;rw[g]at b;cases b
 let S:=(vg.mp g).1;let c:=(vg.mp a).1;show W_fn ?_;unfold pA;rw[aD];show W_setV g (by simp) Bv (m_ _) λw s A r=>now ?_;let A:w[l]?=a8 (.ins "Tree" [("made",.ref _),("failed",y)]):=A;let r:w.l=h.l+1:=by rw[r];simp
 let f:∀(i) o,i≠l->h[i]?=a8 o->w[i]?=a8 o:=λi o I e=>s _ _ I<|Ext.app _ _ _ _ e;rw[aD];show oM (FI w l la lb _ E) (by simp) (f _ _ j a) (I4d _ _ _ _ rfl (λ_ _ _ e=>e) rfl<|jV<|s _ _ ⋯ aE) ?_ ?_ ?_
 ·show λq d H _ iw=>E4c iw λ_ _ _ _ _ K _=>?_;show K _ _ ⋯ (f _ _ j a)
 ·show λq z d H Z jr=>E4d jr λX V U T z2 K N t=>?_;subst z2;rw[wm]at Z;let(p,(P),z1):=w8.mp Z;subst z1;show([a_ l,a_ la,a_ lb,a8<|pv p.nm,a8<|.str p.kd,a8 p.hd,a8 p.sp],by simp[nT],?_);unfold kO;let F:aK "made" (.ref l) H=.ok (.ref _) H:=aP (K _ _ ⋯ A) rfl;let u:gW (.ref _) (pv p.nm) _ H=a8 (H.set _<|.dD<|dW ((mdL _).map _) (pv p.nm)<|id<|eU p):=jW t rfl (by rw[vn,mdL,vn,zm];omega);rw[AD,NW D P]at u;let(o,(O),_):=iH t;simp[F];show(_,u,_,_,_,_,rfl,λi o I e=>aI (K i o I e)<|xy I,by rw[wo];show N,eY<|aR O)
 ·show λd H z8=>E4d z8 λX V U T z0 K N t=>?_;subst z0;rw[vn,Xx]at t;show now <|W_setV (K _ _ ⋯ A) (by simp) (p:=.ref H.l) (h1:=H++[.lst []]) (by simp[dJ<|K _ _ (by have:=(vg.mp b).1;omega)<|f _ _ Y b]) (m_ _) λv B G n=>?_;let n:v.l=H.l+1:=by rw[n];simp
  show q7 v (λi o I e=>B _ _ I<|Ext.app H [MO.lst []] _ _<|K _ _ (by have:=(Y7 0).1;omega)<|f _ _ I e) (vk _) ⋯ ⋯ G (B _ _ ⋯ aE) (bF t λo e=>B _ _ ⋯ (Ext.app H [MO.lst []] _ _ e))
def FN{ds:k_ Dd}(a:∀d∈ds,d.act=[.str "settle"])(R:(ds.map (·.nm)).Nodup)(c:ds.l<=60)(g:h[n]?=a8 (.lst<|ds.map dP))(k:∀t H,t_ H->H[t]?=a8 (.dK [])->Q (.ref t) H):(Aq [.ref n] h).W Q:=by
 show W_fn ?_;unfold Ap;rw[aD];simp;rfl';rw[aD];simp;let m:t_ (h++[MO.dK [],MO.dK []]):=m_ _;let T:(h++[MO.dK [],MO.dK []])[h.length]?=a8 (.dK []):=by simp
 let b:(h++[MO.dK [],MO.dK []])[h.length+1]?=a8 (.dK []):=by simp
 let U:(h++[MO.dK [],MO.dK []]).length=h.l+2:=by simp
 generalize h++[MO.dK [],MO.dK []]=hA at m T b U;rfl';rw[aD];let r:(jA qK true _ hA).W λp j=>∃(L:k_ Dd)(y:PH),p=.ref y.l/\j=y++[.lst<|L.map dP]/\δ8 y/\L.Perm ds:=xP (S:=shape [.inr "",.inl 0]) (rS<|m _ _ g) ⋯ (NK ds) (λ_ _=>rfl) (E3 nmL QG R) (λd D h Q V=>NL d h Q<|V h<|Ext.refl h) λL y X P O=>I2d L y rfl rfl X P;let(p,j,E,L,y,rfl,rfl,X,P):=cU r;let w:δ8 (y++[.lst<|L.map dP]):=X.trans<|Ext.app _ _;let G:(y++[MO.lst<|L.map dP])[y.length]?=a8 (.lst _):=aE;let J:=X.len;generalize y++[MO.lst _]=h4 at E G w;let F:L.l<=60:=by rw[P.length_eq];show c
 show oM (λq s H=>(∀(i) o,i≠h.l+1->h4[i]?=a8 o->H[i]?=a8 o)/\h4.l<=H.l/\(∃v,H[h.length+1]?=a8 (.dK v)/\v.l<=q)/\∃X w u f,s=[a8 _,a_ _,a_ _,X,w,u,f,a9]) (by simp[E]) G ⟨λ_ _ _ e=>e,vk _,⟨[],w _ _ b,vk _⟩,_,_,_,_,rfl⟩ ?_ ?_ ?_
 ·rintro q s H _ ⟨K,_⟩;show K _ _ ⋯ G
 ·rintro q z s H Z ⟨K,N,⟨v,l,C⟩,X,w,u,f,rfl⟩;rw[wm]at Z;let(d,D,rfl):=w8.mp Z;let M:=(vg.mp D).1;let Y:βE 0=a8 (.str "settle"):=by rw[a d<|P.mem_iff.mp<|xw D];show hQ rfl
  show(_,by simp;rfl,?_);unfold sA;rw[aD];simp[dP0,pv];rfl';rw[aD];simp[dP2,Y];rfl';rw[aD];let u:Ext H (H++[MO.lst []]):=m_ _;simp;rw[aD];simp;show A0 (Cr (x:=d.nm.1) (z:=.ref H.l) (u _ _ l) ⋯)<|now ?_;simp only[Su];show(λi o I e=>aI (u _ _<|K i o I e)<|xy I,?_,(A0 (aR<|u _ _ l) ?_),_,_,_,_,rfl)
  ·rw[wo];show vz N u.len
  ·have:=zU v (Wg d.nm.1)<|PV.ref H.l;omega
 ·rintro s H ⟨K,N,_,_,_,_,_,rfl⟩;rfl';simp;show k _ H (λi o e=>K i o (by have:=(Y7 0).1;omega)<|w _ _<|m _ _ e)<|K _ _ ⋯ (w _ _ T)
def QN(p:∀A∈As,A=.settle)(a:As.l<=60)(g:h[n]?=a8 (.lst<|(ZA As).map dP))(k:∀l y,t_ y->y[l]?=a8 (.lst<|(ZA As).map dP)->Q (.ref l) y):(sE [.ref n] h).W Q:=by
 let r:=nU (own:=own) (As:=As) (i:=i);show W_fn ?_;unfold sD;rw[aD];simp;show FM (λA v=>by rw[p A v];show(rfl,λ_ _ _ z=>by exists z)) ⋯ g λL s u _ G=>?_;rfl';rw[aD];simp;show FN (λd D=>by let(j,B,(_),_,H,z0):=qP D;subst z0;rw[p B H];rfl) CM ⋯ G λt w x T=>?_;rfl';let c:=cP (js:=[a9,a8 2]) (tg:=gN 0) (tst:=aN<|aB aW (o_ (mV 0)<|e_ 0)<|mV 1) (elt:=mV 0) (m:=mV 1) (δ:=[a_ n,a_ L,a_ t]) (h:=w)
  (λd=>a8<|dP d) (by simp) (YY G) ⋯ (λd D=>⟨_,rfl,λH X=>by let N:aW (ZH 0) _ H=.ok (.bl true) H:=Ah (jV<|X _ _ T) rfl;simp[eE,dP0,N]⟩)
 rw[filterMap_some]at c;simp[c];show q7 ((u.trans x).trans<|Ext.app _ _) aE
def iS{f:PV->PV->Bool}:∀{xs:E_ 0},(∀x∈xs,f x x=true)->δW xs=true
 |[],_=>rfl
 |x::xs,h=>by unfold cY;rw[h x vo,iS λy H=>h y (εs H)];rfl
def gJ:∀{n:Nat}{p:PV},p.pl n=true->Zl n p p=true:=by
 intro n
 induction n with
 |zero=>
  intro p H;cases p with
  |non=>rfl
  |int i=>exact decide_eq_true rfl
  |str i=>exact decide_eq_true rfl
  |_=>cases H
 |succ n I=>
  intro p H;cases p with
  |non=>rfl
  |int i=>exact decide_eq_true rfl
  |str i=>exact decide_eq_true rfl
  |tup s=>exact iS λx X=>I (we.mp (H) x X)
  |_=>cases H
def GW{f:PV->PV->Bool}:∀{xs ys:E_ 0},xs.l=ys.l->(∀(i:Nat) x y,xs[i]?=a8 x->ys[i]?=a8 y->f x y=true)->δW ys=true
 |[],[],_,_=>rfl
 |x::xs,y::ys,l,h=>by unfold cY;rw[h 0 x y rfl rfl,GW (Nat.succ.inj l) λi u v H z=>h (i+1) u v H z];rfl
 |[],_::_,l,_=>by cases l
 |_::_,[],l,_=>by cases l
variable{r:Nat}{ys:E_ 0}
def cT(g1:h[r]?=a8 (.lst xs))(g2:h[s]?=a8 (.lst ys))(e:cY (Zl n) xs ys=true):Zl (n+1) (.ref r) (.ref s)=true:=by
 change lkL (Zl n) (Ym r) (Ym s)=true
 rw[show Ym r=a8 xs by simp[aJ,g1],show Ym s=a8 ys by simp[aJ,g2]];show e
def Lp{p:Nm×Int}:(rw2 p).pl (n+2)=true:=by unfold rw2 pv;simp[PV.pl]
def Lq{v w:PV}(C:qC r h o v)(z:qC s h o w):Zl (n+4) v w=true:=by
 cases o with
 |none=>subst C;subst z;rfl
 |some L=>
  cases L with
  |cnt i=>subst C;subst z;show decide_eq_true rfl
  |cho q=>let⟨a,rfl,_,g⟩:=C;let⟨b,rfl,_,G⟩:=z;show cT g G (iS λx H=>by let⟨p,_,rfl⟩:=v7.mp H;show gJ Lp)
  |bag q=>let⟨a,rfl,_,g⟩:=C;let⟨b,rfl,_,G⟩:=z;show cT g G (iS λx H=>by let⟨p,_,rfl⟩:=v7.mp H;show gJ Lp)
  |txt=>
   let(a,b,(z1),_,_,g,G):=C;subst z1;let(c,d,(z0),_,_,y,u):=z;subst z0
   change cY (Zl<|n+3) [.ref a,.ref b] [.ref c,.ref d]=true
   unfold cY cY cY;rw[cT g y rfl,cT G u rfl];rfl
abbrev PlE(E:k_ En):Prop:=∀e∈E,e.hd.pl 6=true/\e.sp.pl 6=true
def II(p:PlE E)(c:kH h r E)(C:kH h s E):Zl 8 (.ref r) (.ref s)=true:=by
 let(V,(g),l,o):=c;let(W,(G),L,O):=C;show cT g G<|GW (l.trans L.symm) λi x y H Y=>?_;let(e,u,(z),z1,q):=o i x H;subst z1;let(n,w,(v),z0,Q):=O i y Y;subst z0;rw[z]at v;cases v
 let(P,t):=p e<|xw z
 change cY (Zl 6) [εa 0,.str e.kd,e.hd,e.sp,u] [εa 0,.str e.kd,e.hd,e.sp,w]=true
 let a:Zl 6 (.str e.kd) _=true:=gJ rfl;simp[cY,(gJ E5),a,gJ P,gJ t,(Lq q Q)]
def NY{L0:Lf}{w:PV}(x:LfN B h c L0)(hc:B<=c)(H:kdL L0=kdL L)(Y:qC n h (a8 L) w){mw:Me}(M:εF h=.ok (.ref c) h)(V:mw δ h=.ok w h)(k:∀C,(∀(i:Nat) o,i<B->h[i]?=a8 o->C[i]?=a8 o)->h.l<=C.l->lH B C c L->Q .non C):(aH "fill" 1 iR mo (aA mw aC) δ h).W Q:=by
 let O:¬ (v3 "Choice")="Count" /\ ¬ (v3 "Bag")="Count" /\ ¬ (v3 "Bag")="Choice" /\ ¬ (v3 "Text")="Count" /\ ¬ (v3 "Text")="Choice" /\ ¬ (v3 "Text")="Bag" := by decide +kernel
 let f:(v3 "count")≠"choice" /\ (v3 "count")≠"bag" /\ (v3 "count")≠"text" /\ (v3 "choice")≠"bag" /\ (v3 "choice")≠"text" /\ (v3 "bag")≠"text" := by decide +kernel
 let S:∀{s:Nat}{U:E_ 0}{T:Str}{y:PV}{l:PV->PH->Prop},h[c]?=a8 (.ins T [("standing",y)])->h[s]?=a8 (.lst U)->(∀C,(∀(i:Nat) o,i<B->h[i]?=a8 o->C[i]?=a8 o)->h.l<=C.l->(∃t,C[c]?=a8 (.ins T [("standing",.ref t)])/\C[t]?=a8 (.lst U)/\B<=t)->l .non C)->∀E:FE,(∀δ C,l .non C->Z9 C)->(bG "standing" (mV 0) (β2<|aA (mV 1) aC) [a_ c,a_ s] h).W E:=λ{s U T y l} G v K E hE=>by let hl:=(vg.mp G).1;let X:t_ (h++[MO.lst U]):=m_ _;simp[dJ v];show(_,uP (βg G) h.length,hE _ _<|K _ (λi o I e=>aI (βg e) ⋯) (by rw[wo];show X.len)<|I1c h.l (aR<|X _ _ G) (aI aE ⋯) ⋯)
 cases L0 with
 |cnt i0=>
  cases L with
  |cnt i=>subst Y;simp[mM,M,V,mMx "fill" x rfl,iR];show W_fn ?_;unfold nC;simp;show A0 (cR x<|by simp) (k _ (λi o I e=>aI e ⋯) (by simp)<|aR x)
  |cho r=>exact α5 f.1
  |bag r=>exact α5 f.2.1
  |txt=>exact α5 f.2.2.1
 |cho r0=>
  cases L with
  |cho r=>let⟨s,rfl,_,v⟩:=Y;let⟨t,bt,G,_⟩:=x;simp[mM,M,V,mMx "fill" G rfl,iR,O];show W_fn <|S (l:=Q) G v (λC a b c=>k C a b c) _ λ_ _ q=>q
  |cnt r=>exact αi f.1
  |bag r=>exact α5 f.2.2.2.1
  |txt=>exact α5 f.2.2.2.2.1
 |bag r0=>
  cases L with
  |bag r=>let⟨s,rfl,_,v⟩:=Y;let⟨t,bt,G,_⟩:=x;simp[mM,M,V,mMx "fill" G rfl,iR,O];show W_fn <|S (l:=Q) G v (λC a b c=>k C a b c) _ λ_ _ q=>q
  |cnt r=>exact αi f.2.1
  |cho r=>exact αi f.2.2.2.1
  |txt=>exact α5 f.2.2.2.2.2
 |txt=>
  cases L with
  |txt=>
   let(s,t,(z1),_,_,G,v):=Y;subst z1;let(g,m,K,u,(z0),j,A,a3,Z,a5):=x;let(b1,b2,b3,b4):=z0;let N:g≠m:=λz=>by rw[z,Z]at A;cases A
   let J:g≠c:=λz=>by rw[z,j]at A;cases A
   let F:m≠c:=λz=>by rw[z,j]at Z;cases Z
   let ng:=(vg.mp A).1;let nm:=(vg.mp Z).1;let n1:¬ (v3 "Signs")="Marks" := by decide +kernel
   simp[mM,M,V,mMx "fill" j rfl,iR,O];show W_fn ?_;unfold oZ;rw[aD];simp;rfl';rw[aD];let f1:aK "signs" (.ref c) h=.ok (.ref g) h:=aP j rfl;simp[mM,f1,mMx "fill" A rfl,xR,n1];show W_fn ?_;unfold nE;let X:t_ (h++[MO.dK []]):=m_ _;simp[IB G];show A0 (cR (βg A)<|by simp)<|now ?_;let u:((h++[MO.dK []]).set g<|.ins "Signs"<|jO "kept" (.ref h.l) [("kept",.ref K)])[g]?=a8 _:=aR<|X _ _ A;let d:((h++[MO.dK []]).set g<|.ins "Signs"<|jO "kept" (.ref h.l) [("kept",.ref K)])[h.length]?=a8 (.dK []):=aI aE ⋯;let P:∀(i:Nat) o,i≠g->h[i]?=a8 o->((h++[MO.dK []]).set g<|.ins "Signs"<|jO "kept" (.ref h.l) [("kept",.ref K)])[i]?=a8 o:=λi o I e=>aI (βg e)<|xy I;let l1:((h++[MO.dK []]).set g<|.ins "Signs"<|jO "kept" (.ref h.l) [("kept",.ref K)]).length=h.l+1:=by simp
   generalize (h++[MO.dK []]).set g _=h1 at u d P l1;let D:=P _ _ (xy J) j;let R:=P _ _ (xy N) Z;let f2:aK "marks" (.ref c) h1=.ok (.ref m) h1:=aP D rfl;simp[mM,f2,mMx "fill" R rfl,xR];show W_fn ?_;unfold nD;let p:YQ (h1++[MO.lst []]):=m_ _;simp[cP (α:=PV) (js:=[a9]) (tg:=gN 0) (tst:=dU) (elt:=Y5 (mSl (mV 0) kM<|mP<|e_ 4)<|aX<|aA (mCB oI<|aA (o_ (mV 0)<|e_ 4) aC) aC) (m:=mV 1) (δ:=[a_ m,a_ t]) (h:=h1) (h1:=h1) (n:=t) (ys:=[]) (emb:=id) (λ_=>a9) (by simp) (P t _ (λz=>by rw[z,A]at v;cases v) v) (by decide)<|λd hd=>by cases hd];show(_,uP (p _ _ R) h1.length,k _ (λi o I e=>aI (p _ _<|P i o ⋯ e) ⋯) (by rw[wo];have:=p.len;omega)<|I4g g m h.l h1.l (aI (p _ _ D) F) (aI (p _ _ u)<|xy N) (aI (p _ _ d) ⋯) (aR<|p _ _ R) (aI aE ⋯) ⋯ ⋯)
  |cnt r=>exact αi f.2.2.1
  |cho r=>exact αi f.2.2.2.2.1
  |bag r=>exact αi f.2.2.2.2.2
abbrev WK(E:k_ En):Prop:=∀e∈E,Ea e.kd/\(lf0 e.kd).map kdL=e.lf.map kdL
abbrev bare(e:En):En:={ e with lf:=a9}
def AK:mdL (E.map bare)=mdL E:=by unfold mdL;rw[w9];rfl
def Ef:α3 (E.map bare)=[]:=by unfold lvL;rw[Wo,List.filter_eq_nil_iff];intro e H;let(u,_,rfl):=v7.mp H;simp[bare]
def GX{A:k_ En}{B:k_ En}:α3 (A++ZI 0)=α3 A:=by have:=Ef (a:=a) (E:=B);unfold lvL at this⊢;rw[List.filter_append,yo,this,Vh]
def NZ{A:k_ En}{B:k_ En}:α3 (A++e::ZI 0)=α3 A++(if e.lf.isSome=true then[(e.nm,.ref<|a e.nm)] else[]):=by rw[show A++e::ZI 0=(A++[e])++ZI 0 by simp,GX,CL]
def FS.more{lt:Nat}{A:k_ En}{B:k_ En}(f:c_ (A++(e::B).map bare))(X:e.lf=a8 L)(k:∀(i) o,i≠ll->h[i]?=a8 o->h'[i]?=a8 o)(t:∀x,x≠e.nm->a' x=a x)(T:aV h' ll=a8 ((lvL a' (A++e::ZI 0)).map<|dX id))(S:γ3 (a' e.nm) L)(R:h.l<=a' e.nm):X5 a' (A++e::ZI 0):=by
 let Y:=vz f.lo.1<|yw (εS 0).1;let n:(A++e::ZI 0).map (·.nm)=(A++(e::B).map bare).map (·.nm):=by simp[bare]
 let d:=f.nd;rw[<-n]at d;let r:∀{y},y∈A++e::ZI 0->y.lf.isSome=true->y≠e->y∈A++(e::B).map bare/\y.nm≠e.nm:=λ{y} H q N=>by
  show(?_,λz=>N<|vT d (by simp) H z);rcases xj.mp H with H|H
  ·show y6 _ H
  ·rcases v8.mp H with rfl|H
   ·show absurd rfl N
   ·show v5 _ (εs H)
 let s:∀{y},y∈A++(e::B).map bare->∀{L},y.lf=a8 L->γ3 _ L:=λ{y} H {L} q=>f.leaf (λi o _ I=>k i o I) H q;let F:∀{y},y∈A++e::ZI 0->y.lf.isSome=true->y≠e->a' y.nm≠a' e.nm:=λ{y} H q N z=>by let(w,v):=r H q N;have:=f.adr w q;rw[t _ v]at z;omega
 show(q7 (αp f.fo rfl) f.fo,q7 (αp f.ti rfl) f.ti,q7 (αp f.ls rfl) f.ls,?_,T,λy H P q=>?_,λy H z m Q j Z=>?_,f.ne,d,λy H=>?_,?_,f.lo.1,f.lo.2.1,f.lo.2.2.1,f.lo.2.2.2.1,f.lo.2.2.2.2.1,λy H q=>?_)
 ·have:mdL (A++e::ZI 0)=mdL (A++(e::B).map bare):=by let M:=AK (E:=B);let g:=AK (E:=e::B);unfold mdL at M g⊢;rw[yo,yo,g,wq,wq,M]
  rw[this];show bF f.md λo=>k _ o f.ne
 ·by_cases c:y=e
  ·subst c;rw[X]at q;exists q;show S
  ·let(w,v):=r H (by rw[q];rfl) c;rw[t _ v];show s w q
 ·by_cases C:y=e <;> by_cases p:z=e
  ·rw[C,p]
  ·rw[C]at Z;show absurd Z.symm<|F m j p
  ·rw[p]at Z;show absurd Z<|F H Q C
  ·let(w,v):=r H Q C;let(W,V):=r m j p;rw[t _ v,t _ V]at Z;show f.aj y w z W Q j Z
 ·have:y.nm∈(A++(e::B).map bare).map _:=n▸v7.mpr ⟨y,H,rfl⟩;let(u,U,m):=v7.mp this;rw[<-m];show f.ro u U
 ·have:=f.ln;simp at this⊢;omega
 ·by_cases c:y=e
  ·rw[c];show vz Y R
  ·let(w,v):=r H q c;rw[t _ v];show f.lo.2.2.2.2.2 y w q
variable{x1 x3 x4:l7 PV}
def O0{lt:Nat}{A:k_ En}{B:k_ En}(f:c_ (A++(e::B).map bare))(wk:Ea e.kd/\(lf0 e.kd).map kdL=e.lf.map kdL){w:PV}(hr:r<h.l)(v:qC r h e.lf w){x2 x5:l7 PV}{E0:FE}(kq:∀Z a',FS b Z l lt lm lf ll a' (A++e::ZI 0)->εT Z->E0.nx [a_ l,x1,x2,x3,a8<|pv e.nm,a8<|.str e.kd,x4,x5,a8 w] Z):(cJ [a_ l,x1,x2,x3,a8<|pv e.nm,a8<|.str e.kd,x4,x5,a8 w] h).W E0:=by
 let(hk,X):=wk;let m:=f.nd;let Z:b<=h.l:=vz f.lo.1<|yw (εS 0).1;let no:fnd (tE A) e.nm=a9:=by
  cases z:fnd (tE A) e.nm with
  |none=>rfl
  |some u=>let⟨h1,H⟩:=cL z;rw[yo]at m;show α5 ((zq.mp m).2.2 u.nm (v7.mpr ⟨u,h1,rfl⟩) e.nm<|by simp[bare])
 unfold cJ;rw[aD];simp[mM,mMx "add_leaf" f.fo rfl,kD];show W_fn ?_;unfold cZ;rw[aD];simp;show GQ hk (λk=>now ?_) λy H k xx la l2=>now ?_
 ·rw[k]at X;let eN:e.lf=a9:=by cases z:e.lf with|none=>rfl|some L=>rw[z]at X;exists X
  let ee:bare e=e:=by unfold bare;rw[<-eN]
  let g:c_ (A++e::ZI 0):=by rw[wq,ee]at f;show f
  let Y:=g.hasL e.nm;rw[vU g.nd (e:=e)<|by simp]at Y;simp[eN]at Y;simp;rfl';simp[f.fl,Y];show kq h a g ⟨λ_ _ _ e=>e,vk _,λ_ _ e=>e⟩
 ·rw[k]at X;obtain⟨L,j,eK⟩:∃L,e.lf=a8 L/\kdL y=kdL L:=by cases z:e.lf with|none=>rw[z]at X;cases X|some L=>rw[z]at X;show(L,rfl,wu X)
  let S:=f.lv;rw[GX]at S;let lA:=f.ln;rw[ye]at lA;let i4:=bF S λo=>xx _ o;let hp:gW (.ref ll) (εa 0) (.ref h.l) H=a8 (H.set ll<|.dD<|dW ((α3 A).map<|dX id) (εa 0)<|id<|.ref h.l):=jW i4 rfl (by rw[vn,lvL,vn];have:=Wy (λe:En=>e.lf.isSome) A;omega);rw[AD,qB (by rw[CI a (by rw[yo]at m;show(zq.mp m).1),no];rfl)]at hp;let G:∀x,x≠e.nm->(λx=>if x=e.nm then h.l else a x) x=a x:=λx hx=>if_neg hx;let d:∀E:En,E.nm=e.nm->E.lf.isSome=true->α3 A++[(e.nm,PV.ref h.l)]=lvL (λx=>if x=e.nm then h.l else a x) (A++E::ZI 0):=λE n1 n2=>by rw[NZ,if_pos n2,n1,if_pos rfl,BQ (a':=λx=>if x=e.nm then h.l else a x) (a:=a) λu hu=>if_neg<|uQ no u hu]
  let lp:=(iH f.lv);let(o,(ho),_):=lp;let S:=(vg.mp ho).1;let V:aK "leaves" (.ref l) H=.ok (.ref ll) H:=aP (xx _ _ f.fo) rfl;simp[V];show(_,hp,?_);let U:=aR (o':=.dD<|(α3 A++[(e.nm,PV.ref h.l)]).map<|dX id)<|xx _ _ ho;let K:∀(i:Nat) o,i≠ll->H[i]?=a8 o->(H.set ll<|.dD<|(α3 A++[(e.nm,PV.ref h.l)]).map<|dX id)[i]?=a8 o:=λi o I e=>aI e<|xy I;let l3:(H.set ll<|.dD<|(α3 A++[(e.nm,PV.ref h.l)]).map<|dX id).length=H.l:=wo;generalize H.set ll _=h3 at U K l3;let p:=la.at (vk _) (hz:=h3) λi o I e=>K i o ⋯ e;let V:=λi o I e=>K i o I<|xx _ _ e;let F:=FS.more (e:={ e with lf:=a8 y}) (L:=y) (B:=B) f rfl V G (by rw[<-d { e with lf:=a8 y} rfl rfl];show eY U) (by rw[if_pos rfl];show p.2.low Z) (by simp);let fe:=vU F.nd (e:={ e with lf:=a8 y}) (by simp);let Y:=F.hasL e.nm;let T:=F.atL fe rfl;rw[fe]at Y;let Y:=Y;rw[if_pos rfl]at T;rfl';simp[F.fl,Y];let m:qC h3.l h3 (a8 L) w:=by
   rw[j]at v;cases L with
   |cnt i=>exact v
   |cho p=>let⟨s,C,c2,c⟩:=v;have:=(vg.mp c).1;show(s,C,by have:=xx.len;omega,V _ _ (αp c rfl) c)
   |bag p=>let⟨s,C,c2,c⟩:=v;have:=(vg.mp c).1;show(s,C,by have:=xx.len;omega,V _ _ (αp c rfl) c)
   |txt=>let⟨s,t,C,c2,c,q,n⟩:=v;have:=(vg.mp q).1;have:=(vg.mp n).1;show I2e s t C (by have:=xx.len;omega) (by have:=xx.len;omega) (V _ _ (αp q rfl) q)<|V _ _ (αp n rfl) n
  show NY p.1 (vk _) eK m (by simp[F.fl,T]) (by simp) λh4 t l4 a4=>?_;show kq h4 _ (FS.more f j (λi o I e=>?_) G ?_ (by rw[if_pos rfl];show a4.low Z)<|by simp) ⟨λi o I e=>?_,?_,λi xs e=>?_⟩
  ·show t _ _ (Y7 0).1 (V _ _ I e)
  ·rw[<-d e rfl (by rw[j];rfl)];show eY<|t _ _ S U
  ·show t _ _ (Y7 0).1 (V _ _ (by have:=f.lo.2.2.2.2.1;omega) e)
  ·have:=xx.len;omega
  ·show t _ _ (Y7 0).1 (V _ _ (αp e rfl) e)
def Eg{h:PH}{r:Nat}:∀{E:k_ En}{vs:E_ 0},vs.l=E.l->(∀(i:Nat) v,vs[i]?=a8 v->∃e w,E[i]?=a8 e/\v=Ed e w/\qC r h e.lf w)->∃P:k_ (En×PV),P.map (·.1)=E/\vs=P.map (λp=>Ed p.1 p.2)/\∀p∈P,qC r h p.1.lf p.2
 |[],[],_,_=>I1c [] rfl rfl nofun
 |e::E,v::vs,l,o=>by
  let(P,(y),x,u):=(Eg (Nat.succ.inj l) (λi v V=>by let(e,w,z):=o (i+1) v V;show(e,w,z)));let(q,w,(Z),t,s):=o 0 v rfl;cases Z
  show I1c ((e,w)::P) (by rw[wq,y]) (by rw[t,x];rfl) λp H=>?_;rcases v8.mp H with rfl|H
  ·show s
  ·show u p H
 |[],_::_,l,_=>by exists l
 |_::_,[],l,_=>by exists l
variable{y:Nat}
def AL(em:Yh h=.ok [.tup [.ref r,.ref y]] h1)(c:kH h1 r E)(gy:h1[y]?=a8 (.lst []))(L:(E.map (·.nm)).Nodup)(ro:∀e∈E,e.nm≠root)(ln:E.l<=60)(wk:WK E)(k:∀w lt M l ll a,YQ w->FS h1.l w h1.l lt M l ll a E->Q (.ref h1.l) w):(eG "Folding" 1 bQ ms δ h).W Q:=by
 show nS em rfl ?_;let(vs,(g),lv,ov):=c;let(P,rfl,rfl,pc):=Eg lv ov;let lP:P.l<=60:=by simp_all
 show W_fn ?_;unfold eO;let A:(h1++[MO.ins "Folding" []])[h1.length]?=a8 _:=aE;let z:YQ (h1++[MO.ins "Folding" []]):=m_ _;let lA:(h1++[MO.ins "Folding" []]).length=h1.l+1:=by simp
 generalize h1++[MO.ins "Folding" []]=hA at A z lA;rw[aD];simp;rfl';rw[aD,A8];show Lo λB xv yv J gB=>?_;simp;show A0 (cR (J _ _ A)<|by simp)<|now ?_;let t:(B.set h1.l<|MO.ins "Folding"<|jO "tree" (.ref hA.l) [])[h1.length]?=a8 (.ins "Folding" [("tree",.ref hA.l)]):=aR<|J _ _ A;let N:(B.set h1.l<|MO.ins "Folding"<|jO "tree" (.ref hA.l) [])[hA.length]?=a8 _:=aI gB ⋯;let s:YQ (B.set h1.l<|MO.ins "Folding"<|jO "tree" (.ref hA.l) []):=CK (z.trans J)<|vk _;generalize B.set h1.l _=h2 at t N s;rw[aD];let C:=cP (m:=mV 2) (js:=[a9]) (tg:=gN 0) (tst:=dU) (elt:=mSl (mV 0) kM<|mP<|e_ 4) (δ:=[a_ h1.length,a8<|.tup [.ref r,.ref y],a_ r,a_ y,a9,a9,a9,a9,a9]) (h:=h2) (h1:=h2) (n:=r) (ys:=P) (λp=>a8<|nT p.1) (by simp) (s _ _ g) ⋯
  (λp _=>(I1b [a8<|Ed p.1 p.2] (by simp[eE]) λh _=>⟨rfl,by simp[Ed,nT,fP,HT.sIx]⟩))
 rw[filterMap_some,show P.map (λp=>nT p.1)=(P.map (·.1)).map nT by rw[w9];rfl]at C;let X:Ext h2 (h2++[MO.lst ((P.map (·.1)).map nT)]):=m_ _;let j:(h2++[MO.lst ((P.map (·.1)).map nT)])[h2.length]?=a8 (.lst _):=aE;generalize h2++[MO.lst _]=h3 at C j X;let ft:aK "tree" (.ref h1.l) h2=.ok _ h2:=aP t rfl;simp[mM,ft,mMx "fill" N rfl,BM,C];show NX L ⋯ (βg N) j (βg<|s _ _ gy) λM l Y D lm4 lf4 ln4 T G d=>now ?_;let l2:=(vg.mp<|X _ _ t).1;let F:=D _ _ ⋯ (βg t);let b:YQ Y:=λi o e=>D _ _ (by have:=(Y7 0).1;omega)<|X _ _<|s _ _ e;rw[aD];show KU F (by simp) λV K O R l5=>now ?_;let l4:=(vg.mp F).1;let(om,(U),_):=iH d;let lmh:=(vg.mp U).1;let v:YQ V:=λi o e=>βW (by have:=(Y7 0).1;omega)<|b _ _ e;let f0:FS h1.l V h1.l hA.l M l Y.l (λ_=>0) ([]++(P.map (·.1)).map bare):=by
  let Z:∀e∈(P.map (·.1)).map bare,e.lf=a9:=λe H=>by let(u,_,rfl):=v7.mp H;rfl
  show(O,K _ _ ⋯ T,K _ _ ⋯ G,?_,?_,λe H L q=>?_,λe H e' _ q=>?_,⋯,?_,λe H=>?_,by simp;show lP,vk _,⋯,⋯,⋯,⋯,λe H q=>?_)
  ·rw[List.nil_append,AK];show bF d λo=>K _ o ⋯
  ·rw[List.nil_append,Ef];show jV R
  ·rw[Z e H]at q;exists q
  ·rw[Z e H]at q;exists q
  ·rw[List.nil_append,w9];show L
  ·let(u,hu,rfl):=v7.mp H;show ro u hu
  ·rw[Z e H]at q;exists q
 show oM (n:=r) (h1:=V) (λq δ w=>YQ w/\(∃a,FS h1.l w h1.l hA.l M l Y.l a ((P.map (·.1)).take q++((P.map (·.1)).drop q).map bare))/\∃b v T G O,δ=[a8 _,a8 _,a_ r,a_ y,b,v,T,G,O]) (by simp) (v _ _ g) ⟨v,⟨_,d0 f0⟩,_,_,_,_,_,rfl⟩ ?_ ?_ ?_
 ·rintro q δ w _ ⟨x,_⟩;show YY g
 ·rintro q z δ w I ⟨x,⟨a,f⟩,b,v,T,G,O,rfl⟩;rw[wm]at I;let(p,S,rfl):=w8.mp I;let H:(P.map (·.1))[q]?=a8 p.1:=by simp_all
  let hd:(P.map (·.1)).drop q=p.1::(P.map (·.1)).drop (q+1):=by rw[List.drop_eq_getElem_cons (by rw[vn];show((vg.mp S).1))];congr 1;have:=vg.mp H;show this.2
  let ht:(P.map (·.1)).take (q+1)=(P.map (·.1)).take q++[p.1]:=by rw[Xp,H];rfl
  rw[hd]at f;show([a_ h1.length,a8<|.tup [.ref r,.ref y],a_ r,a_ y,a8<|pv p.1.nm,a8<|.str p.1.kd,a8 p.1.hd,a8 p.1.sp,a8 p.2],by simp[Ed],?_);show O0 f (wk p.1<|xw H) (r:=r) (by have:=(vg.mp<|x _ _ g).1;show this) ((pc p<|xw S).mono λj o _ e=>YY e) λh6 a6 f6 fr=>?_;show(λi o e=>fr.1 _ _ (Y7 0).1<|x _ _ e,⟨a6,?_⟩,_,_,_,_,_,rfl);rw[ht,Vw];show f6
 ·rintro δ w ⟨x,⟨a,f⟩,_⟩;rw[vn,<-vn (as:=P),Xx,List.drop_length,List.map_nil,Vh]at f;show q7 _ _ _ _ x f
abbrev sm:Nat->PV->PV->Bool
 |n+1,.tup xs,.tup ys=>cY (sm n) xs ys
 |_,.int _,.int _=>true
 |_,.str _,.str _=>true
 |_,_,_=>false
def Ts:∀(n)(x y),sm n x y=true->(ζv y).isSome=true:=by
 intro n
 induction n with
 |zero=>intro x y h;cases x <;> cases y <;> first|rfl|(cases h)
 |succ n I=>
  intro x y h;cases x with
  |int a=>cases y <;> first|rfl|(cases h)
  |str a=>cases y <;> first|rfl|(cases h)
  |tup X=>
   cases y with
   |tup s=>
    change(ltL _ X s).isSome=true
    let h:cY _ X s=true:=h
    induction X generalizing s with
    |nil=>cases s <;> rfl
    |cons x X i=>
     cases s with
     |nil=>rfl
     |cons y s=>
      unfold cY at h;rw[wy]at h;unfold ltL;split
      ·show i s h.2 h.2
      ·show I x y h.1
   |_=>cases h
  |_=>cases y <;> cases h
def OG{α:Type}{f:α->PV}{W:k_ α}(M:m<3)(h1:∀x∈W,(f x).ky 20=true/\fk (f x)=m)(z:∀x∈W,∀y∈W,sm 20 (f x) (f y)=true):ζw (W.map f):=by
 show(M,λv h=>?_,λv h=>?_,λv h u U=>?_)
 ·let(x,H,rfl):=v7.mp h;show(h1 x H).1
 ·let(x,H,rfl):=v7.mp h;show(h1 x H).2
 ·let(x,H,rfl):=v7.mp h;let(y,Y,rfl):=v7.mp U;show Ts _ _ _<|z x H y Y
def oV{α:Type}(f)(x:α):∀s,rR id (f x) (s.map f)=(rR f x s).map f
 |[]=>rfl
 |y::s=>by
  unfold rR
  change(if ltN (f y) (f x)=true then f y::rR id (f x) _ else f x::f y::s.map f)=_
  split
  ·rw[wq,oV f x s]
  ·rfl
def lU{α:Type}(f:α->PV):∀s,eZ id (s.map f)=(eZ f s).map f
 |[]=>rfl
 |x::s=>by
  change rR id (f x) _=_
  rw[lU f s,oV];rfl
abbrev nZ(nm:Nm):PV:=.tup [.tup [.int 1,.str nm.1,.int nm.2,.int 0]]
abbrev HO(E:k_ En):Prop:=∀e∈E,(e.hd=.non/\e.sp=.non)\/∃p,e.hd=pv p/\((γH p=.str "map" /\ ∃t:Str,e.sp=.str t)\/(γH p=.str "row" /\ ∃u,e.sp=nZ u))
abbrev rkV:PV->PV
 |.tup xs=>.tup (xs++[.tup [.int 0]])
 |v=>v
abbrev QO(E:k_ En)(p:Nm):Bool:=decide (γH p=.str "row")
abbrev eV(r:Bool)(e:En):PV:=.tup [if r=true then rkV e.sp else e.sp,εa 0]
abbrev hW(E:k_ En)(p:Nm):k_ En:=E.filter λe=>decide (e.hd=pv p)
abbrev wi(E:k_ En)(p:Nm):k_ En:=eZ (eV<|QO E p)<|hW E p
abbrev nmV(e:En):PV:=εa 0
def CN:e∈wi E p↔e∈E/\e.hd=pv p:=by unfold wi hW;rw[(eJ _ _).mem_iff,VR,decide_eq_true_eq]
def FO:(wi E p).length<=E.l:=by unfold wi hW;rw[(eJ _ _).length_eq];show Wy _ _
def IJ(u)(h):eR [nZ u] h=.ok (rkV<|nZ u) h:=by
 let w:(eR [nZ u] h).W λq H=>q=rkV (nZ u)/\H=h:=by show W_fn ?_;unfold vP;have:aU (nZ u) (.tup [.tup [.int 0]]) h=.ok (rkV<|nZ u) h:=rfl;simp[this]
 let(q,H,(e),z0,z1):=cU w;subst z0;subst z1;show e
def Tt(o:HO E)(p):(γH p≠.str "row" -> ∃m,ζw<|(hW E p).map<|eV false)/\(γH p=.str "row" -> (∃m,ζw<|(hW E p).map<|eV true)/\∀e∈hW E p,∃u,e.sp=nZ u):=by
 let r:∀e∈hW E p,(γH p=.str "map" /\ ∃t,e.sp=.str t)\/(γH p=.str "row" /\ ∃u,e.sp=nZ u):=λe H=>by
  let(w,v):=VR.mp H;let v:=of_decide_eq_true v;rcases o e w with⟨z,_⟩|⟨q,z,y⟩
  ·rw[v]at z;exists z
  ·rw[sY<|v.symm.trans z];show y
 constructor
 ·intro n;let w:∀e∈hW E p,∃t,e.sp=.str t:=λe H=>by
   rcases r e H with⟨_,y⟩|⟨y,_⟩
   ·show y
   ·show absurd y n
  show(1,OG ⋯ (λe H=>?_) λe H u U=>?_)
  ·let(t,T):=w e H;unfold eV;rw[T];show(rfl,rfl)
  ·let(t,T):=w e H;let(s,S):=w u U;unfold eV;rw[T,S];rfl
 ·intro k;let w:∀e∈hW E p,∃u,e.sp=nZ u:=λe H=>by
   rcases r e H with⟨y,_⟩|⟨_,y⟩
   ·rw[k]at y;injection y with y;show absurd y (by decide +kernel)
   ·show y
  show(⟨2,OG ⋯ (λe H=>?_) λe H u U=>?_⟩,w)
  ·let(t,T):=w e H;unfold eV;rw[T];show(rfl,rfl)
  ·let(t,T):=w e H;let(s,S):=w u U;unfold eV;rw[T,S];rfl
def BS{lt:Nat}(f:c_ E)(j:HO E)(p:Nm)(k:∀l w,t_ w->h.l<=l->w[l]?=a8 (.lst<|(wi E p).map nmV)->Q (.ref l) w):(kZ [.ref lt,pv p] h).W Q:=by
 let lE:=f.ln;show W_fn ?_;unfold kY;rw[aD];let(o,(O),D,hi):=AG f.md;let I:rW o=a8 (E.map λy=>.tup [pv y.nm,eU y]):=by rw[hi,w9,mdL,w9];rfl
 let P:βO (mUn (aK "made")<|mV 0) [a_ lt,a8<|pv p,a9] h=.ok (.ref h.l) (h++[.vw 0 lm]):=by simp[f.fm,(let ⟨_,_,d,_⟩:=gR f.md;d),mW O D]
 let H:=Ad (js:=[a9,a9,a8 1]) (tg:=ZE<|gCn (gN 0)<|gCn (gN 1) gNl) (tst:=aN<|aB bU (o_ (mV 1)<|e_ 1)<|mV 2) (elt:=aX<|aA (o_ (mV 1)<|e_ 2)<|aA (mV 0) aC) (h:=h) (ys:=E) (λy=>if decide (y.hd=pv p)=true then a8 (eV false y) else a9) P aE I (by rw[O];show D) (ZN O) ⋯
  (λy hy=>⟨[a8 (pv y.nm),a8 (eU y),a8 (pv p)],by simp[eE],λh=>by
   let v:vIx (eU y) (.int 1) h=.ok y.hd h:=by unfold eU;simp
   let Y:vIx (eU y) (.int 2) h=.ok y.sp h:=by unfold eU;simp
   rcases j y hy with⟨z,_⟩|⟨q,z,_⟩
   ·have:¬ PV.non=pv p:=by unfold pv;show λz=>by exists z
    let N:bU .non (pv p) h=.ok (.bl false) h:=IF;simp[v,z,this,N]
   ·by_cases c:q=p
    ·simp[v,Y,z,KW,c,eV]
    ·have:¬ pv q=pv p:=λz=>c (sY z);simp[v,Y,z,KW,c,this]⟩)
 rw[iQ (λy:En=>decide (y.hd=pv p))<|eV false]at H;let X:t_ (h++[Z2 0]++[MO.lst<|(hW E p).map<|eV false]):=(m_ _).trans<|Ext.app _ _;let g:(h++[Z2 0]++[MO.lst<|(hW E p).map<|eV false])[(h++[Z2 0]).length]?=a8 _:=aE;let C:(aT 2 (iZ (βO<|mUn (aK "made")<|mV 0)<|bK [a9,a9,a8 1] (oT<|hV cE cM<|mUn (aK "made")<|mV 0) (ZE<|gCn (gN 0)<|gCn (gN 1) gNl) (aN<|aB bU (o_ (mV 1)<|e_ 1)<|mV 2)<|aX<|aA (o_ (mV 1)<|e_ 2)<|aA (mV 0) aC) ([PV.ref lt,pv p].map a8++Vj (3 - [PV.ref lt,pv p].length) a9) h)=.nx [a_ lt,a8<|pv p,a8<|.ref (h++[Z2 0]).length] (h++[Z2 0]++[MO.lst<|(hW E p).map<|eV false]):=by
  unfold aT;rw[show([PV.ref lt,pv p].map a8++Vj (3 - [PV.ref lt,pv p].length) a9)=[a_ lt,a8<|pv p,a9] from rfl,H]
  rfl
 clear H;generalize (h++[Z2 0]).length=l1 at C g;generalize h++[Z2 0]++[MO.lst<|(hW E p).map<|eV false]=hA at C g X;rw[C,Sr];clear C;rfl';let lW:(hW E p).length<=60:=vz (Wy _ _) lE;let A:=f.keep X;let i:∀(r:Bool)(m:Nat)(L:Nat)(B:PH),ζw ((hW E p).map<|eV r)->wi E p=eZ (eV r) (hW E p)->t_ B->B[L]?=a8 (.lst<|(hW E p).map<|eV r)->Lt (aQ<|bK [a9,a9] (bB<|mCB cG<|aA (mV 2) aC) (ZE<|gCn (gN 0)<|gCn (gN 1) gNl) dU<|mV 1) { nx:=λ_ h=>Q .non h,rt:=Q} [a_ lt,a8<|pv p,a_ L] B:=by
  show λr m L B K hw V J=>now ?_;let S:=DW J (by rw[vn];omega) K;rw[lU,<-hw]at S;let G:(B++[MO.lst<|(wi E p).map<|eV r])[B.length]?=a8 (.lst<|(wi E p).map<|eV r):=aE;let t:Ext B (B++[MO.lst<|(wi E p).map<|eV r]):=m_ _;generalize B.l=ls at S G;generalize B++[MO.lst<|(wi E p).map<|eV r]=hC at S G t;let lS:=FO (E:=E) (p:=p);let H:=cP (m:=mCB cG<|aA (mV 2) aC) (js:=[a9,a9]) (tg:=ZE<|gCn (gN 0)<|gCn (gN 1) gNl) (tst:=dU) (elt:=mV 1) (δ:=[a_ lt,a8<|pv p,a_ L]) (h:=B) (h1:=hC) (n:=ls) (ys:=wi E p) (emb:=eV r)
   (λx=>a8<|nmV x) (by simp[S]) G ⋯ (λx Z=>(I1b [a8<|if r=true then rkV x.sp else x.sp,a8<|pv x.nm] (by simp[eE,eV]) λh _=>⟨rfl,by simp[nmV]⟩))
  rw[filterMap_some]at H;rw[jT,H,iX];show q7 (V.trans<|t.trans<|Ext.app _ _) (V.trans t).len aE
 rw[aD,gQ];let(o1,o2):=Tt j p;by_cases e:γH p=.str "row"
 ·let R:QO E p=true:=decide_eq_true e;simp[mM,mMx "kind_of" A.ti rfl,bX,qO A,e];let((m,K),su):=o2 e;let H:=cP (m:=mV 2) (js:=[a9,a9]) (tg:=ZE<|gCn (gN 0)<|gCn (gN 1) gNl) (tst:=dU) (elt:=aX<|aA (bD 1 eR<|aA (mV 0) aC)<|aA (mV 1) aC) (δ:=[a_ lt,a8<|pv p,a_ l1]) (h:=hA) (h1:=hA) (n:=l1) (ys:=hW E p) (emb:=eV false)
   (λx=>a8<|eV true x) (by simp) g ⋯ (λx Z=>by let(u,U):=su x Z;show I1b [a8<|nZ u,a8<|pv x.nm] (by simp[eE,eV,U]) λh _=>⟨rfl,?_⟩;simp[IJ,eV,U])
  rw[filterMap_some]at H;let F:(hA++[MO.lst<|(hW E p).map<|eV true])[hA.length]?=a8 _:=aE;let T:δ8 (hA++[MO.lst<|(hW E p).map<|eV true]):=m_ _;generalize hA.l=L at H F;generalize hA++[MO.lst<|(hW E p).map<|eV true]=B at H F T;simp[H];show i true m L B K (by unfold wi;rw[R]) (X.trans T) F
 ·let R:QO E p=false:=εZ 0;let(m,K):=o1 e;let M:bU (γH p) (.str "row") hA=.ok (.bl false) hA:=by
   rcases E6 E p with z|⟨s,z⟩
   ·rw[z];rfl
   ·rw[z];have:¬ s="row" := λy=>e (by rw[z,y]);simp[this]
  simp[mM,mMx "kind_of" A.ti rfl,bX,qO A,M];show i false m l1 hA K (by unfold wi;rw[R]) X g
def GY(e:h[n]?=a8 (.lst xs)):tru (.ref n) h=.ok (!xs.isEmpty) h:=AF e
def O1{p:PV}(e:h[n]?=a8 (.lst<|xs++[p])):onL Fe (.ref n) [] h=.ok p (P_<|.lst xs):=by simp[onL,cD,e,Fe]
structure HI(E:k_ En)(F L:k_ Nm):Prop where
 nd:(F++L).Nodup
 mem:∀t∈F++L,t=root\/∃e∈E,e.nm=t/\∃s∈F,e.hd=pv s
 cl:∀(i:Nat) t,F[i]?=some t->∀e∈wi E t,e.nm∈L\/∃j,i<j/\F[j]?=some e.nm
 ro:(F=[]/\L=[root])\/F[0]?=some root
variable{F:k_ Nm}
def QP(n:F.Nodup)(m:∀t∈F,t=root\/∃e∈E,e.nm=t):F.l<=E.l+1:=by
 have:∀(G F:k_ Nm),F.Nodup->(∀t∈F,t∈G)->F.l<=G.l:=by
  intro G
  induction G with
  |nil=>intro F _ h;cases F with|nil=>exact vk _|cons x _=>exact absurd (h x vo) (by simp)
  |cons g G i=>
   intro F n h;let w:=i _ (n.erase g) λt H=>by
    rcases v8.mp (h t<|List.mem_of_mem_erase H) with z|z
    ·rw[z]at H;show α5 (λq=>by have:=(n.mem_erase_iff).mp q;show this.1 rfl)
    ·show z
   have:=List.length_erase (a:=g) (l:=F);rw[yz];split at this <;> omega
 have:=this (root::E.map _) F n λt H=>by
  rcases m t H with z|⟨e,y,z⟩
  ·rw[z];show vo
  ·show εs (v7.mpr<|I1b e y z)
 simpa using this
def HI.step{L:k_ Nm}{t:Nm}(i:HI E F (L++[t]))(n:(E.map (·.nm)).Nodup)(R:∀e∈E,e.nm≠root):HI E (F++[t]) (L++(wi E t).map (·.nm)):=by
 let p:(F++[t]++L).Perm (F++(L++[t])):=by rw[Vw];show List.perm_append_comm.append_left F
 let W:((wi E t).map (·.nm)).Nodup:=by show((eJ _ _).map _).nodup_iff.mpr <|List.Nodup.sublist (List.filter_sublist.map _) n
 show(?_,λu H=>?_,λk u K e h=>?_,?_)
 ·rw[<-Vw,zq];show(p.nodup_iff.mpr i.nd,W,λx X y Y z=>?_);subst z;let(e,h,rfl):=v7.mp Y;let(h,v):=CN.mp h;rcases i.mem e.nm (p.mem_iff.mp X) with z|⟨u,H,z,s,w,S⟩
  ·show R e h z
  ·rw[vT n h H z,v]at S;show(λz=>(zq.mp i.nd).2.2 t z t (by simp) rfl) (sY S▸w)
 ·rcases xj.mp H with H|H
  ·rcases i.mem u (p.mem_iff.mp<|y6 _ H) with z|⟨e,h,z,s,w,S⟩
   ·show .inl z
   ·show .inr ⟨e,h,z,s,y6 _ w,S⟩
  ·rcases xj.mp H with H|H
   ·rcases i.mem u (p.mem_iff.mp<|v5 _ H) with z|⟨e,h,z,s,w,S⟩
    ·show .inl z
    ·show .inr ⟨e,h,z,s,y6 _ w,S⟩
   ·let(e,h,rfl):=v7.mp H;let(h,v):=CN.mp h;show .inr ⟨e,h,rfl,t,by simp,v⟩
 ·rcases Nat.lt_trichotomy k _ with z|z|z
  ·rw[ya z]at K;rcases i.cl k u K e h with y|⟨j,q,r⟩
   ·rcases xj.mp y with y|y
    ·show .inl (y6 _ y)
    ·show .inr ⟨F.length,z,?_⟩;rw[vx.mp y,zi<|vk _,Nat.sub_self];rfl
   ·show .inr ⟨j,q,by rw[ya (vg.mp r).1];show r⟩
  ·rw[z,zi<|vk _,Nat.sub_self]at K
   exists K
   show .inl<|v5 _<|v7.mpr ⟨e,h,rfl⟩
  ·have:=(vg.mp K).1;simp at this;omega
 ·rcases i.ro with⟨o,Z⟩|z
  ·cases L with
   |nil=>rw[List.nil_append]at Z;cases Z;rw[o];show .inr rfl
   |cons x L=>injection Z with _ Z;show absurd Z (by simp)
  ·show .inr (by rw[ya (vg.mp z).1];show z)
def HI.len{L:k_ Nm}(i:HI E F L):F.l+L.l<=E.l+1:=by
 have:=QP i.nd λt H=>(i.mem t H).imp id λz0=>E1c z0 λe h z _=>I1b e h z
 rwa[ye]at this
abbrev HF(E:k_ En)(F:k_ Nm):Prop:=F.l<=61/\F[0]?=a8 root/\∀(i:Nat) t,F[i]?=a8 t->∀e∈wi E t,∃j,i<j/\F[j]?=a8 e.nm
abbrev HW(E:k_ En)(l:Nat)(h:PH)(m:Nat)(δ:Ev)(h':PH):Prop:=t_ h'/\∃F L:k_ Nm,m+F.l=61/\HI E F L/\h'[h.length]?=a8 (.lst<|F.map pv)/\h'[h.length+1]?=a8 (.lst<|L.map pv)/\∃x3,δ=[a_ l,δk 0,a_<|h.l+1,x3]
variable{G:FE}
def Lr{lt:Nat}(f:c_ E)(o:HO E)(x:t_ h'){L:k_ Nm}(r:h'[h.length]?=a8 (.lst<|F.map pv))(w:h'[h.length+1]?=a8 (.lst<|(L++[p]).map pv))(m:F.l<=100)(j:L.l<=100)(k:∀H,t_ H->H[h.length]?=a8 (.lst<|(F++[p]).map pv)->H[h.length+1]?=a8 (.lst ((L++(wi E p).map (·.nm)).map pv))->G.nx [a_ l,δk 0,a_<|h.l+1,a8<|pv p] H):(cO [a_ l,δk 0,a_<|h.l+1,x3] h').W G:=by
 unfold cO;rw[aD];rw[yo]at w;simp[iL w,(O1 w)];let t:t_ (h'.set (h.l+1)<|.lst<|L.map pv):=x.setN ⋯;let u:=aR (o':=MO.lst<|L.map pv) w;let g:(h'.set (h.l+1)<|.lst<|L.map pv)[h.length]?=a8 (.lst _):=aI r ⋯;generalize h'.set _ (.lst _)=h1 at t u g;rfl';rw[aD];simp[iL g,(mS g (by rw[vn];omega))];let X:t_ (h1.set h.l<|.lst<|F.map pv++[pv p]):=t.setN ⋯;let y:(h1.set h.l<|.lst<|F.map pv++[pv p])[h.length+1]?=a8 (.lst _):=aI u ⋯;let z:=aR (o':=MO.lst<|F.map pv++[pv p]) g;generalize h1.set _ (.lst _)=H at X y z;let v:=f.keep X;rfl';simp[iL y,mM,v.ft,mMx "within" v.ti rfl,mH];show BS v o p λe n x3 _ s=>?_;let q:=FO (E:=E) (p:=p);let i:=f.ln;simp[IA (x3 _ _ y) s (by rw[vn,vn];omega)];show k _ ((X.trans x3).setN ⋯) ?_ ?_
 ·rw[aI (x3 _ _ z) ⋯];simp
 ·rw[aR<|x3 _ _ y,yo,w9];rfl
def FP{lt:Nat}(f:c_ E)(o:HO E)(k:∀l Y F,t_ Y->h.l<=l->Y[l]?=a8 (.lst<|F.map pv)->HF E F->Q (.ref l) Y):(fE [.ref l] h).W Q:=by
 let d:=f.ln;show W_fn ?_;unfold fD;rw[aD];simp;let X:t_ (h++[MO.lst []]):=m_ _;let G:(h++[MO.lst []])[h.length]?=a8 _:=aE;let v:(h++[MO.lst []]).length=h.l+1:=by simp
 generalize h++[MO.lst []]=hA at X G v;rfl';rw[aD];simp;let u:δ8 (hA++[MO.lst [pv root]]):=m_ _;let y:(hA++[MO.lst [pv root]])[hA.length]?=a8 (.lst _):=aE;rw[v]at y⊢;rfl';rw[aD];show GP (HW E l h) ?_ 1000000 61 ⋯ _ _ ⟨X.trans u,[],[root],rfl,⟨by simp,λt T=>.inl<|d0 T,λi t r=>by simp at r,.inl ⟨rfl,rfl⟩⟩,(u _ _ G),y,_,rfl⟩;rintro m Z Y ⟨x,F,L,M,i,w,g,c,rfl⟩;let I:=i.len;rcases List.eq_nil_or_concat L with rfl|⟨L,t,rfl⟩
 ·simp[GY g];rfl';simp;show q7 F x (vk _) w ⟨⋯,?_,λj t J e H=>?_⟩
  ·rcases i.ro with⟨_,z⟩|z
   ·exists z
   ·show z
  ·rcases i.cl j t J e H with z|z
   ·cases z
   ·show z
 ·rw[List.concat_eq_append]at i g I;let n:((L.map pv)++[t].map pv).isEmpty=false:=by simp
  simp at I;simp[GY g,n];show Lr f o x w g ⋯ ⋯ λp q A s=>⟨m-1,⋯,q,F++[t],L++(wi E t).map _,by simp;omega,i.step f.nd f.ro,A,s,_,rfl⟩
variable{ns:YV 0}
def FQ(e:h[n]?=a8 (.lst<|ns.map PV.int))(l:ns.l<64):lQ (.ref n) h=.ok (.ref h.l) (h++[.lst<|(sortI<|ddI ns).map PV.int]):=by
 let E:Ym n=a8 (ζu 0):=by simp[aJ,e]
 simp only[lQ,E,By];rw[if_pos l]
abbrev Ls(r:k_ (Nm×Int)):E_ 0:=(sortI (ddI (r.map (·.2)))).map PV.int
abbrev tlL:Lf->E_ 0
 |.cho r=>Ls r
 |.bag r=>Ls r
 |_=>[]
abbrev tlR(h:PH):Lf->PV->Prop
 |.cnt i,v=>v=.int i
 |L,v=>∃s,v=.ref s/\h[s]?=a8 (.lst<|tlL L)
def GZ{r:k_ (Nm×Int)}(l:r.l<=60)(g:h[n]?=a8 (.lst<|r.map rw2))(k:∀s H,t_ H->H[s]?=a8 (.lst<|Ls r)->Q (.ref s) H):(iO [.ref n] h).W Q:=by show W_fn ?_;unfold nN;let c:=cP (js:=[a9,a9]) (tg:=ZE<|gCn (gN 0)<|gCn (gN 1) gNl) (tst:=dU) (elt:=mV 1) (m:=mV 0) (δ:=[a_ n]) (h:=h) (λp=>b0 p.2) (by simp) g ⋯ (λp _=>(I1b [a8<|pv p.1,b0 p.2] (by simp[eE,rw2]) λh _=>⟨rfl,by simp⟩));rw[filterMap_some,show r.map (λp=>PV.int p.2)=(r.map (·.2)).map _ by rw[w9];rfl]at c;let G:(h++[MO.lst ((r.map (·.2)).map PV.int)])[h.length]?=a8 (.lst _):=aE;let x:t_ (h++[MO.lst ((r.map (·.2)).map PV.int)]):=m_ _;generalize h++[MO.lst _]=hA at c G x;simp[c,(FQ G (by rw[vn];omega))];show q7 (x.trans<|Ext.app _ _) aE
def IK(g:h[n]?=a8 (.lst []))(k:∀s z,t_ z->Q (.ref s) z):(sV [.ref n] h).W Q:=by
 show W_fn ?_;unfold sU;rw[aD];simp;let X:t_ (h++[MO.dK []]):=m_ _;generalize h++[MO.dK []]=hA at X;rfl';rw[aD];let r:(jA eR false _ hA).W λp y=>∃H,p=.ref H.l/\y=H++[.lst []]/\δ8 H:=xP (α:=Nm) (emb:=pv) (S:=shape [.inr "",.inl 0]) (rS<|X _ _ g) (by decide) (BR []) (λ_ h=>nomatch h) W6 (λ_ h=>nomatch h) λo z x P _=>by rw[List.Perm.eq_nil P];show I1c z rfl rfl x
 let(p,y,e,H,rfl,rfl,w):=cU r;show CH (n:=H.l) (by simp[e]) aE<|now ?_;simp;show q7<|X.trans<|w.trans<|Ext.app _ _
def Tu(g:h[m]?=a8 (.ins "Marks" [("standing",.ref s)]))(G:h[s]?=a8 (.lst []))(k:∀s H,t_ H->H[s]?=a8 (.lst [])->Q (.ref s) H):(nP [.ref m] h).W Q:=by show W_fn ?_;unfold nO;rw[aD];simp;let x:t_ (h++[MO.dK []]):=m_ _;let d:(h++[MO.dK []])[h.length]?=a8 _:=aE;generalize h++[MO.dK []]=hA at x d;rfl';rw[aD];let f:aK "standing" (.ref m) hA=.ok _ hA:=aP (YY g) rfl;show CH (by simp[f]) (YY G)<|now ?_;simp[DJ<|jV d];show q7 (x.trans<|Ext.app _ _) aE
def QQ(g:h[m]?=a8 (.ins "Marks" [("standing",.ref s)]))(G:h[s]?=a8 (.lst []))(z:h[n]?=a8 (.lst []))(k:∀s r,t_ r->Q (.ref s) r):(eC [.ref m,.ref n] h).W Q:=by show W_fn ?_;unfold dZ;rw[aD];simp[mM,mMx "ends" g rfl,GJ];show Tu g G λS u X e=>?_;rw[vF (βg z) e<|by simp];simp;show IK aE λt H v=>?_;rfl';rw[aD];simp;let y:Ext H (H++[MO.lst []]):=m_ _;generalize H++[MO.lst []]=h4 at y;let x:=((X.trans<|Ext.app _ _).trans v).trans y;rfl';rw[aD];let f:aK "standing" (.ref m) h4=.ok _ h4:=aP (YY g) rfl;show CH (by simp[f]) (YY G)<|now ?_;rw[aD];simp;let w:Ext h4 (h4++[MO.lst []]):=m_ _;rfl';rw[aD];show CH (by simp) (w _ _<|x _ _ z)<|now ?_;simp;show q7<|x.trans w
def Lu(A:lH b h c .txt)(k:∀s y,t_ y->y[s]?=a8 (.lst [])->Q (.ref s) y):(pV [.ref c] h).W Q:=by
 let(g,m,K,s,(l),L,t,r,o):=A;show W_fn ?_;unfold pU;rw[aD];let F:aK "marks" (.ref c) h=.ok _ h:=aP l rfl;simp[mM,F,mMx "words_along" r rfl,pS,mMx "places" l rfl,BN];show W_fn ?_;unfold lG;let f:aK "signs" (.ref c) h=.ok _ h:=aP l rfl;let(N,z,(e),j,B,p):=AH L t;let C:=cP (js:=[a9,a9]) (tg:=ZE<|gCn (gN 0)<|gCn (gN 1) gNl) (tst:=dU) (elt:=mV 0) (m:=aH "rows" 0 fX (mUn (aK "signs")<|mV 0) aC) (δ:=[a_ c]) (h:=h) (ys:=[]) (emb:=id) (λ_=>a9) (by simp[mM,f,mMx "rows" L rfl,fX,e]) p (by decide) (λd H=>by cases H);simp[C];let Z:Ext z (z++[MO.lst []]):=m_ _;let G:(z++[MO.lst []])[z.length]?=a8 _:=aE;generalize _=l1' at G;let X:=j.trans Z;show QQ (βg r) (βg o.1) G λS w Y=>?_;rfl';let x:=X.trans Y;let q:aK "signs" (.ref c) w=.ok _ w:=aP (YY l) rfl;let(n,u,(E),V,U,v):=AH (YY L)<|x _ _ t;let a:aJ u n=a8 []:=by simp[aJ,v]
 let i:KB (aA (aH "rows" 0 fX (mUn (aK "signs")<|mV 0) aC) aC) [a_ c,a_ S] w=.ok ⟨[],tT n []⟩ u:=by unfold KB;simp[mM,q,mMx "rows" (YY L) rfl,fX,E,QF a]
 let H:=lN (js:=[a9,a9,a8 1]) (tg:=ZE<|gCn (gN 0)<|gCn (gN 1) gNl) (tst:=dU) (elt:=aX<|aA (o_ (mV 1)<|e_ 0)<|aA (o_ (mV 1)<|e_ 1)<|aA (o_ (mV 2)<|mV 0) aC) (ys:=[]) (emb:=id) (λ_=>a9) i (zL v) (by decide) (λd H=>by cases H);rw[jT,H,iX];show q7 ((x.trans V).trans<|Ext.app _ _) aE
def O2(a:ζC L)(R:(ζD 0).length<=60)(e:εF h=.ok (.ref c) h)(k:∀v H,t_ H->tlR H L v->Q v H):(aH "told" 0 qL mo aC δ h).W Q:=by
 let n:¬ (v3 "Choice")="Count" /\ ¬ (v3 "Bag")="Count" /\ ¬ (v3 "Bag")="Choice" /\ ¬ (v3 "Text")="Count" /\ ¬ (v3 "Text")="Choice" /\ ¬ (v3 "Text")="Bag" := by decide +kernel
 cases L with
 |cnt i=>have f:aK "total" (.ref c) h=.ok _ h:=aP a rfl;simp[mM,e,mMx "told" a rfl,qL];show W_fn ?_;unfold nM;simp[f];show q7 (βD 0) rfl
 |cho r=>let⟨s,l,z,_⟩:=a;let f:aK "standing" (.ref c) h=.ok _ h:=aP l rfl;simp[mM,e,mMx "told" l rfl,qL,n];show W_fn ?_;unfold lD;simp[f];show GZ R z λs H x g=>q7 x ⟨s,rfl,g⟩
 |bag r=>let⟨s,l,z,_⟩:=a;let f:aK "standing" (.ref c) h=.ok _ h:=aP l rfl;simp[mM,e,mMx "told" l rfl,qL,n];show W_fn ?_;unfold sT;simp[f];show GZ R z λs H x g=>q7 x ⟨s,rfl,g⟩
 |txt=>have A:=a;let(g,m,K,s,(l),_):=A;simp[mM,e,mMx "told" l rfl,qL,n];show Lu a λs H x g=>q7 x ⟨s,rfl,g⟩
abbrev LR(E:k_ En):Prop:=∀e∈E,∀L,e.lf=a8 L->(ζD 0).length<=60
abbrev lfE(E:k_ En)(t:Nm):l7 Lf:=(fnd (tE E) t).bind (·.lf)
abbrev TR(E:k_ En):Nat->Nm->PV->PH->Prop
 |0,_,_,_=>False
 |n+1,t,v,h=>match lfE E t with
  |some L=>∃w,v=.tup [γH t,w]/\tlR h L w
  |none=>∃(s:Nat)(g:En->PV),v=.tup [γH t,.ref s]/\h[s]?=a8 (.lst<|(wi E t).map λe=>.tup [e.sp,εa 0,g e])/\∀e∈wi E t,TR E n e.nm (g e) h
def tlR.keep(k:∀(i:Nat) xs,h[i]?=a8 (.lst xs)->h'[i]?=a8 (.lst xs)){v:PV}(c:tlR h L v):tlR h' L v:=by
 cases L with
 |cnt i=>exact c
 |cho r=>let⟨s,a,b⟩:=c;show(s,a,q7 b)
 |bag r=>let⟨s,a,b⟩:=c;show(s,a,q7 b)
 |txt=>let⟨s,a,b⟩:=c;show I1b s a<|k _ _ b
def TR.keep(k:∀(i:Nat) xs,h[i]?=a8 (.lst xs)->h'[i]?=a8 (.lst xs)):∀{n:Nat}{t:Nm}{v:PV},εU h->εU h'
 |0,_,_,c=>c
 |n+1,t,v,c=>by
  unfold TR at c⊢;cases e:lfE E t with
  |some L=>rw[e]at c;let(w,a,b):=c;show I1b w a<|b.keep k
  |none=>rw[e]at c;let(s,g,a,b,d):=c;show I2c s g a (q7 b) λe H=>TR.keep k (d e H)
def TR.up:∀{n m:Nat}{t:Nm}{v:PV},n<=m->εU h->TR E m t v h
 |0,_,_,_,_,c=>c.elim
 |n+1,0,_,_,l,_=>absurd l ⋯
 |n+1,m+1,t,v,l,c=>by
  unfold TR at c⊢;cases e:lfE E t with
  |some L=>rw[e]at c;show c
  |none=>rw[e]at c;let(s,g,a,b,d):=c;show I2c s g a b λe H=>TR.up (Nat.le_of_succ_le_succ l) (d e H)
def O3{v w:PV}(c:tlR h L v)(C:tlR h L w):Zl (n+2) v w=true:=by
 let l:∀X:YV 0,cY (Zl<|n+1) (X.map PV.int) (X.map _)=true:=λX=>iS λx H=>by let(i,_,rfl):=v7.mp H;show decide_eq_true rfl
 cases L with
 |cnt i=>subst c;subst C;show decide_eq_true rfl
 |cho r=>let⟨s,rfl,b⟩:=c;let⟨s',rfl,b'⟩:=C;show cT b b'<|l _
 |bag r=>let⟨s,rfl,b⟩:=c;let⟨s',rfl,b'⟩:=C;show cT b b'<|l _
 |txt=>let⟨s,rfl,b⟩:=c;let⟨s',rfl,b'⟩:=C;show cT b b' rfl
def Eh{α:Type}{f:PV->PV->Bool}{u v:α->PV}:∀{xs:k_ α},(∀x∈xs,f (u x) (v x)=true)->cY f (xs.map u) (xs.map v)=true
 |[],_=>rfl
 |x::xs,h=>by rw[wq,wq];unfold cY;rw[h x vo,Eh λy H=>h y (εs H)];rfl
def IL{t:Nm}:Zl n (γH t) (γH t)=true:=by
 rcases E6 E t with e|⟨k,e⟩
 ·rw[e];cases n <;> rfl
 ·rw[e];cases n <;> exact decide_eq_true rfl
def O4(o:HO E)(H:e∈E):Zl (n+2) e.sp e.sp=true:=by
 rcases o e H with⟨_,z⟩|⟨p,_,⟨_,t,z⟩|⟨_,u,z⟩⟩
 ·rw[z];rfl
 ·rw[z];show decide_eq_true rfl
 ·rw[z];show gJ (by unfold nZ;simp[PV.pl])
def Ha{E:k_ En}(o:HO E){h:PH}(k):∀{n m:Nat}{t:Nm}{v w:PV},εU h->TR E m t w h->Zl (3*n+2+k) v w=true
 |0,_,_,_,_,c,_=>c.elim
 |n+1,0,_,_,_,_,c=>c.elim
 |n+1,m+1,t,v,w,C,z=>by
  unfold TR at C z;let p:3*(n+1)+2+k=(3*n+2+k)+3:=⋯;rw[p];generalize r:3*n+2+k=N;let u:∀x y,Zl (N+2) x y=true->Zl (N+3) (.tup [γH t,x]) (.tup [γH t,y])=true:=λx y q=>by
   change cY (Zl<|N+2) [γH t,x] [γH t,y]=true
   simp[cY,IL,q]
  cases e:lfE E t with
  |some L=>rw[e]at C z;let(x,rfl,b):=C;let(y,rfl,B):=z;show u _ _<|O3 b B
  |none=>
   rw[e]at C z;let(s,g,(z0),b,d):=C;subst z0;let(l,G,rfl,B,D):=z;show u _ _<|cT b B<|Eh λe H=>?_;let i:=Ha o k (d e H)<|D e H;rw[r]at i;let S:Zl N e.sp e.sp=true:=by rw[<-r,show 3*n+2+k=(3*n+k)+2 by omega];show O4 o (CN.mp H).1
   let M:Zl N (εa 0) (εa 0)=true:=by rw[<-r,show 3*n+2+k=(3*n+k+1)+1 by omega];show gJ E5
   change cY (Zl N) [e.sp,εa 0,g e] [e.sp,εa 0,G e]=true
   simp[cY,S,M,i]
def Hb{lt:Nat}(f:c_ E)(q:fnd (tE E) x=a8 e):jY [.ref lt,pv x] h=.ok (.tup [e.hd,e.sp]) h:=by
 let w:(jY [.ref lt,pv x] h).W λq z=>q=.tup [e.hd,e.sp]/\z=h:=by show W_fn ?_;unfold oW;let H:=f.hasM x;rw[q]at H;let t:=f.atM q;unfold eU at t;simp[f.fm,H,t,fP,HT.sIx]
 let(q,z,(e),z0,z1):=cU w;subst z0;subst z1;show e
variable{fT:Nm->l7 PV}
def FT{lt:Nat}(f:c_ E)(O:HO E)(R:LR E){td:Nat}(t:Tb h td c fT)(ch:∀e∈wi E p,∃v,fT e.nm=a8 v/\TR E n e.nm v h)(k:∀v N,t_ N->TR E (n+1) p v N->Q v N):(fG [.ref l,pv p,.ref td] h).W Q:=by
 let U:=f.ln;show W_fn ?_;unfold fF;rw[aD];simp[mM,mMx "kind_of" f.ti rfl,bX,f.ft,qO f];rfl';rw[aD];let H:=f.hasL p;let H:cI _ _ h=.ok (.bl (lfE E p).isSome) h:=H;cases z:lfE E p with
 |some L=>
  rw[z]at H;let H:=H;simp[lfE]at z;cases q:fnd _ p with
  |none=>rw[q]at z;exists z
  |some e=>
   let s:e.lf=a8 L:=by rw[q]at z;show z
   let o:=f.le e (cL q).1 L s;rw[(cL q).2]at o;let A:=f.atL q (by rw[s];rfl);simp[f.fl,H,-qI];simp;show O2 o (R e (cL q).1 L s) (by simp[f.fl,A]) λw r X d=>?_;show q7 X ?_;unfold TR;rw[show lfE E p=a8 L from z]
   show I1b w rfl d
 |none=>
  rw[z]at H;let H:=H;simp[f.fl,H];rfl';let(v,r,Z,y,rfl,X,G):=cU<|BS f O p (Q:=λv N=>∃y,v=.ref y/\t_ N/\N[y]?=a8 (.lst _)) λy N x _ g=>⟨y,rfl,x,g⟩;let S:=FO (E:=E) (p:=p);let C:=cP (m:=aH "within" 1 mH (mUn (aK "tree")<|mV 0)<|aA (mV 1) aC) (js:=[a9,a8 2,a8 0]) (tg:=gN 0) (tst:=dU) (elt:=aX<|aA (o_ (aH "held" 1 qJ (mUn (aK "tree")<|mV 2)<|aA (mV 0) aC)<|e_ 1)<|aA (mV 0)<|aA (o_ (mV 1)<|mV 0) aC) (δ:=[a_ l,a8<|pv p,a_ td,a8<|aY E p]) (h:=h)
   (λe=>a8<|.tup [e.sp,εa 0,(fT e.nm).getD .non]) (by simp[mM,f.ft,mMx "within" f.ti rfl,mH,Z]) G ⋯ (λe u=>by show I1b [a8<|pv e.nm,a_ td,a_ l] (by simp[eE,nmV]) λY j=>⟨rfl,?_⟩;let F:=(f.keep X).keep j;let(v,(V),_):=ch e u;simp[mM,mMx "held" F.ti rfl,qJ,F.ft,Hb F<|vU f.nd (CN.mp u).1,((t.ext<|X.trans j).at' V),V])
  rw[filterMap_some]at C;simp[C];show q7 (X.trans<|Ext.app _ _) ?_;unfold TR;rw[z];show I2c r.l (λe=>(fT e.nm).getD .non) rfl aE λe u=>?_;let(v,(V),T):=ch e u
  change TR E n e.nm ((fT e.nm).getD .non) _
  rw[V];show T.keep λi P e=>(X.trans<|Ext.app _ _) _ _ e
def QR{E:FE}(I:Nat->Ev->PH->Prop)(e:Yh h=.ok [.ref n] h1)(N:h1[n]?=a8 (.lst xs))(u:I 0 δ h1)(k:∀q δ h,q<=xs.l->I q δ h->h[n]?=a8 (.lst xs))(s:∀(q) x δ h,xs.reverse[q]?=a8 x->I q δ h->∃z,tg x δ=a8 z/\(body z h).W { nx:=I<|q+1,ct:=I<|q+1,rt:=E.rt,bk:=E.nx})(f:∀δ h,δU h->Z9 h):(gP (Kf ms) tg body δ h).W E:=by
 let K:∀{h:PH},h[n]?=a8 (.lst xs)->tT n xs h=true:=λ{h} e=>by
  let w:Ym n=a8 xs:=by unfold aJ;rw[e]
  unfold tT;rw[w];show δj 0
 unfold gP Kf;rw[e];let v:rvI [.ref n] h1=.ok ⟨xs.reverse,tT n xs⟩ h1:=by
  let w:aJ h1 n=a8 xs:=by unfold aJ;rw[N]
  unfold rvI;simp[w]
 rw[Rs.bind_ok,v];show δT h1 u (λq x δ h _ X y=>?_)<|λδ h y=>?_
 ·let H:xs.reverse[q]?=a8 x:=by simpa using X
  have:=(vg.mp H).1;rw[Xy]at this;show(K<|k q δ h ⋯ y,s q x δ h H y)
 ·let i:δU h:=by simpa using y
  show(K<|k _ δ h (vk _) i,f δ h i)
abbrev TI(E:k_ En)(F:k_ Nm)(l td lw:Nat)(h:PH)(q:Nat)(δ:Ev)(h':PH):Prop:=(∀(i:Nat) o,i≠td->h[i]?=a8 o->h'[i]?=a8 o)/\(∃fT,Tb h' td q fT/\∀(i:Nat) t,F[i]?=a8 t->F.l<=i+q->∃v,fT t=a8 v/\TR E q t v h')/\h'[lw]?=a8 (.lst<|F.map pv)/\∃x2,δ=[a_ l,a_ td,x2]
def Ei{lt:Nat}(f:c_ E)(O:HO E)(lr:LR E)(k:∀v D,t_ D->TR E 61 root v D->Q v D):(jM [.ref l] h).W Q:=by
 show W_fn ?_;unfold jL;rw[aD];simp;let d:t_ (h++[MO.dK []]):=m_ _;let G:(h++[MO.dK []])[h.length]?=a8 _:=aE;let l0:(h++[MO.dK []]).length=h.l+1:=by simp
 generalize h++[MO.dK []]=hA at d G l0;rfl';rw[aD];let A:=f.keep d;let(v,R,D,w,F,rfl,M,b1,V,(lF,rF,J)):=cU<|FP A O (Q:=λv D=>∃(w:Nat)(F:k_ Nm),v=.ref w/\δ8 D/\hA.l<=w/\D[w]?=a8 (.lst<|F.map pv)/\HF E F) λw D F x b g z=>⟨w,F,rfl,x,b,g,z⟩;let X:=d.trans M;show QR (TI E F l _ w R) (by simp[mM,mMx "hanging" A.fo rfl,AB,D]) V ⟨λ_ _ _ e=>e,(A0 (Tb.nil<|M _ _ G) λi t H hl=>by have:=(vg.mp H).1;omega),V,_,rfl⟩ (λq L D _ i=>i.2.2.1) ?_ ?_
 ·rintro q z L D Z ⟨K,⟨fT,t,C⟩,U,x2,rfl⟩;let hq:q<F.l:=by have:=(vg.mp Z).1;rw[Xy,vn]at this;show this
  rw[List.getElem?_reverse (by rw[vn];show hq),vn,wm]at Z;let(p,(N),z0):=w8.mp Z;subst z0;show I1b [a8 _,a_ _,a8 _] rfl ?_;unfold fY;let Y:FS b D l lt lm lf ll a E:=by show f.keep λi o e=>K i o (by have:=(Y7 0).1;omega)<|X _ _ e
  let(v,y,B,s,T):=cU (FT Y O lr t (λe he=>by let(j,(R),h2):=J _ p N e he;show C j e.nm h2 ⋯) (Q:=λv y=>Ext D y/\TR E _ p v y) λv y x c=>⟨x,c⟩);let(o,(P),t'):=(t.ext s).put ⋯ p v;let m:∀(i:Nat) S,y[i]?=a8 (.lst S)->(y.set _ o)[i]?=a8 _:=λi S e=>aI e ((t.ext s).ne_lst e).symm;simp[mM,mMx "telling" Y.fo rfl,AC,B];show(_,P,λi o H e=>aI (s _ _<|K i o H e)<|xy H,⟨_,t',λi u H hl=>?_⟩,m _ _<|s _ _ U,_,rfl);by_cases c:u=p
  ·subst c;show εC (by simp[upN])<|T.keep m
  ·let I:F.l<=i+q:=by
    rcases Nat.lt_or_ge (i+q) F.l with z|z
    ·exfalso;have:i=F.l-1-q:=⋯;rw[this,N]at H
     exists H
     show c rfl
    ·show z
   let(v',(r),n):=C i u H I;show(v',by simp[upN,c,r],(n.keep λi S e=>m i S<|s _ _ e).up<|XH _)
 ·rintro L D ⟨K,⟨fT,t,C⟩,U,x2,rfl⟩;rw[vn]at C t;let(v,hv,T):=C 0 root rF ⋯;rfl';have:vAt (.ref _) (.tup [.str "",.int 0]) D=.ok v D:=t.at' hv;simp[this];show k v D (λi o e=>K i o (by have:=(Y7 0).1;omega)<|X _ _ e)<|T.up lF
abbrev nmI(own:Str)(i:Nat):Nm:=(own,(i:Int)+1)
structure GE(own:Str)(i:Nat)(E:k_ En):Prop where
 ho:HO E
 lr:∀e∈E,∀L,e.lf=some L->(rowsOf L).length<=i/\∀p∈rowsOf L,p.1.1=own/\p.1.2<=(i:Int)
 wk:WK E
 pl:PlE E
 inc:E.Pairwise λa b=>a.nm.2<b.nm.2
 nm:∀e∈E,e.nm.1=own/\1<=e.nm.2/\e.nm.2<=(i:Int)
 ln:E.l<=i
abbrev AkV(E:k_ En):Ak->Prop
 |.settle=>True
 |.make k p z=>Ea k/\E8 E p z
 |.drop t=>∃e,fnd (tE E) t=a8 e
 |.move t _=>∃e,fnd (tE E) t=a8 e
 |.leaf w t _=>∃e L,fnd (tE E) t=a8 e/\e.lf=a8 L/\E7 w L
def Ej{α:Type}{P:α->Prop}:∀x∈([]:k_ α),P x:=λ_ h=>Y2 Ws
def GE.nil:Zs 0 []:=⟨Ej,Ej,Ej,Ej,.nil,Ej,vk _⟩
section
def GE.nd(G:Zs i E):(E.map (·.nm)).Nodup:=by unfold List.Nodup;rw[yy];show G.inc.imp λq e=>by rw[e]at q;omega
def GE.ro(G:Zs i E):∀e∈E,e.nm≠root:=λe h z=>by have:=(G.nm e h).2.1;rw[z]at this;show ZY (by decide)
def GE.srt(G:Zs i E):Srt E:=by
 show List.Pairwise.imp_of_mem (λ{a b} h H q=>?_) G.inc
 change(if(Wg _:Key)=.inr _ then(if(Sum.inl _:Key)=.inl _ then rN [] [] else εl 0) else _)=false
 rw[if_pos<|by rw[(G.nm a h).1,((G.nm b H).1)],if_neg (λz=>by have:=Sum.inl.inj z;omega)];show decide_eq_false ⋯
def GE.LR(G:Zs i E)(hi:i<=60):LR E:=λe h L q=>vz (εV q).1 hi
open H in
def FU{k:Str}(e:lf0 k=a8 L):kdL L=k:=by
 unfold lf0 at e;split at e
 ·rename_i h;cases e;show h.symm
 ·split at e
  ·rename_i h;cases e;show h.symm
  ·split at e
   ·rename_i h;cases e;show h.symm
   ·split at e
    ·rename_i h;cases e;show h.symm
    ·cases e
def Lv{k:Str}(e:lf0 k=a8 L):ζD 0=[]:=by
 unfold lf0 at e
 repeat' split at e
 all_goals cases e <;> rfl
def GE.new(G:Zs i E):fnd (tE E) (Ya i)=a9:=by
 cases q:fnd _ _ with
 |none=>rfl
 |some e=>let⟨h,X⟩:=cL q;have:=(G.nm e h).2.2;rw[X]at this;have:(i:Int)+1<=i:=this;omega
def Lw:Ya i≠root:=λz=>by have:=γX z;have:(i:Int)+1=0:=this;omega
def GE.ok(G:Zs i E)(hi:i<60){A:Ak}(v:AkV E A):Tq E (YH i) (Ya i) A:=by
 cases A with
 |settle=>trivial
 |make k p z=>exact I0e G.new Lw v.1 v.2<|y3 G.ln hi
 |drop t=>exact v
 |move t z=>exact v
 |leaf w t n=>
  let(e,L,(q),l,W):=v;let h:=(cL q).1;let(r,c):=εV l;show I2f e L q l ?_ W ?_ ⋯
  ·have:=(G.wk e h).2;rw[l]at this;cases z:lf0 e.kd with
   |none=>rw[z]at this;exists this
   |some y=>rw[z]at this;show(FU z).symm.trans (wu this)
  ·have:=wb (List.length_pos_of_mem h) G.ln;show .inr (I2b own i (by unfold aZ;rw[if_neg ⋯]) c)
def uR{k:Str}(q:γH p=.str k):aY (E++[e]) p=.str k:=by
 unfold aY at q⊢;by_cases c:p=root
 ·rw[Za 0]at q⊢;show q
 ·rw[βh 0]at q⊢;cases z:fnd (tE E) p with
  |none=>rw[z]at q;cases q
  |some u=>rw[z]at q;rw[QJ,GN,z];show q
def QS(n:∀e,(g e).nm=e.nm)(p):fnd (tE<|upE E x g) p=(fnd (tE E) p).map λe=>if e.nm=x then g e else e:=by
 induction E with
 |nil=>rfl
 |cons e E h=>
  let N:(if e.nm=x then g e else e).nm=e.nm:=by split;show n e;rfl
  change(if(if e.nm=x then g e else e).nm=p then a8 _ else fnd (tE<|upE E x g) p)=Option.map _ (if e.nm=p then a8 e else fnd (tE E) p)
  rw[N,h];split <;> rfl
def Hc(n:∀e,(g e).nm=e.nm)(k:∀e,(g e).kd=e.kd)(p):aY (Zz g) p=γH p:=by
 unfold aY;rw[QS n];cases fnd _ p with
 |none=>rfl
 |some e=>
  simp;split
  ·rfl
  ·split
   ·rw[k]
   ·rfl
def GE.make(G:Zs i E){k:Str}(K:Ea k)(s:E8 E p z):Zs (i+1) (E++[⟨Ya i,k,pv p,fN z<|nmI own i,lf0 k⟩]):=by
 let o:∀{P:En->Prop},(∀e∈E,P e)->P ⟨Ya i,k,pv p,fN z _,lf0 k⟩->∀e∈E++[⟨nmI own i,k,pv p,fN z<|nmI own i,lf0 k⟩],P e:=λx H e h=>by
  rcases xj.mp h with h|h
  ·show x e h
  ·rw[vx.mp h];show H
 show(o (λe h=>?_) ?_,o (λe h L q=>?_) λL q=>?_,o G.wk ⟨K,?_⟩,o G.pl ⟨E5,?_⟩,?_,o (λe h=>?_) ?_,?_)
 ·rcases G.ho e h with y|⟨u,y,Y⟩
  ·show .inl y
  ·show .inr ⟨u,y,Y.imp (λq=>⟨uR q.1,q.2⟩) λq=>⟨uR q.1,q.2⟩⟩
 ·show .inr (I1b p rfl ?_);rcases s with⟨y,t,rfl⟩|⟨y,rfl⟩
  ·show .inl ⟨uR y,t,rfl⟩
  ·show .inr ⟨uR y,Ya i,rfl⟩
 ·let(x,H):=εV q;show(⋯,λp w=>⟨(H p w).1,by have:=(H p w).2;omega⟩)
 ·rw[Lv q];show(by simp,nofun)
 ·rfl
 ·rcases s with⟨y,t,rfl⟩|⟨y,rfl⟩
  ·rfl
  ·rfl
 ·rw[List.pairwise_append];show(G.inc,by simp,λa A b B=>?_);rw[vx.mp B];have:=(G.nm a A).2.2
  change a.nm.2<(i)+1
  omega
 ·let((x),H,v):=G.nm e h;show(x,H,⋯)
 ·show(rfl,by change 1<=(i:Int)+1;omega,by change(i:Int)+1<=_;omega)
 ·rw[ye];have:=G.ln;simp;omega
def GE.up(G:Zs i E)(n:∀e,(g e).nm=e.nm)(k:∀e,(g e).kd=e.kd)(h1:∀e∈E,e.nm=x->(((g e).hd=e.hd/\(g e).sp=e.sp)\/((g e).hd=.non/\(g e).sp=.non)\/((g e).hd=pv root/\∃t,(g e).sp=.str t)))
  (h2:∀e∈E,∀L,(g e).lf=a8 L->(ζD 0).length<=i+1/\∀p∈rowsOf L,p.1.1=own/\p.1.2<=((i+1:Nat):Int)) (H:∀e∈E,(g e).lf.map kdL=e.lf.map kdL):Zs (i+1) (Zz g):=by
 let A:∀{P:En->Prop},(∀e∈E,P e)->(∀e∈E,e.nm=x->P (g e))->∀e∈upE E x g,P e:=λa b e h=>by
  obtain⟨u,U,⟨c,rfl⟩|⟨_,rfl⟩⟩:=xW h
  ·show b u U c
  ·show a _ U
 show(A (λe h=>?_) λe h c=>?_,A (λe h L q=>?_) λe h _=>h2 e h,A G.wk λe h _=>⟨by rw[k];show(G.wk e h).1,by rw[k,H e h];show(G.wk e h).2⟩,A G.pl λe h c=>?_,?_,A (λe h=>?_) λe h _=>?_,?_)
 ·rcases G.ho e h with y|⟨u,y,Y⟩
  ·show .inl y
  ·show .inr ⟨u,y,by rw[Hc n k];show Y⟩
 ·rcases h1 e h c with⟨a,b⟩|⟨a,b⟩|⟨a,t,b⟩
  ·rw[a,b];rcases G.ho e h with y|⟨u,y,Y⟩
   ·show .inl y
   ·show .inr ⟨u,y,by rw[Hc n k];show Y⟩
  ·show .inl ⟨a,b⟩
  ·show .inr ⟨root,a,.inl ⟨by unfold aY;rw[if_pos rfl],t,b⟩⟩
 ·let(h1,h2):=εV q;show(⋯,λp z=>⟨(h2 p z).1,by have:=(h2 p z).2;omega⟩)
 ·rcases h1 e h c with⟨a,b⟩|⟨a,b⟩|⟨a,t,b⟩
  ·rw[a,b];show G.pl e h
  ·rw[a,b];show(rfl,rfl)
  ·rw[a,b];show(rfl,rfl)
 ·have:((Zz g).map (·.nm)).Pairwise λa b=>a.2<b.2:=by rw[FL n,yy];show G.inc
  rwa[yy]at this
 ·let(h1,h2,H):=G.nm e h;show(h1,h2,⋯)
 ·let((h1),h2,H):=G.nm e h;rw[n];show(h1,h2,⋯)
 ·unfold upE;rw[vn];have:=G.ln;omega
def GE.step(G:Zs i E){A:Ak}(v:AkV E A):Zs (i+1) (rH E (Ya i) A):=by
 let l:∀e∈E,∀L,e.lf=a8 L->(ζD 0).length<=i+1/\∀p∈rowsOf L,p.1.1=own/\p.1.2<=((i+1:Nat):Int):=λe y L q=>by let(s,H):=G.lr e y L q;show(⋯,λp h=>⟨(H p h).1,by have:=(H p h).2;omega⟩)
 cases A with
 |settle=>show(G.ho,l,G.wk,G.pl,G.inc,λe y=>?_,by have:=G.ln;change E.l<=_;omega);let((s),H,f):=G.nm e y;show(s,H,⋯)
 |make k p z=>exact G.make v.1 v.2
 |drop t=>exact G.up (λ_=>rfl) (λ_=>rfl) (λe _ _=>.inr (.inl ⟨rfl,rfl⟩)) l λ_ _=>rfl
 |move t z=>exact G.up (λ_=>rfl) (λ_=>rfl) (λe _ _=>.inr (.inr ⟨rfl,z,rfl⟩)) l λ_ _=>rfl
 |leaf w t n=>
  show G.up (λ_=>rfl) (λ_=>rfl) (λe _ _=>.inl ⟨rfl,rfl⟩) (λe y L q=>?_) λe y=>?_
  ·cases u:e.lf with
   |none=>rw[u]at q;exists q
   |some o=>
    rw[u]at q
    exists q
    let(s,H):=l e y o u;let M:(Ya i).1=own/\(Ya i).2<=((i+1:Nat):Int):=⟨rfl,by change(i:Int)+1<=_;omega⟩;let m:=(G.lr e y o u).1;cases o with
    |cnt j=>exact⟨w6 _,nofun⟩
    |cho r=>exact⟨by change 1<=i+1;omega,λp h=>by rw[vx.mp h];show M⟩
    |bag r=>
     by_cases c:w="put"
     ·rw[show CJ _ w n (.bag r)=.bag _ from if_pos c]
      show(by change(r++[_]).length<=_;let m:r.l<=i:=m;simp;omega,λp h=>?_);rcases xj.mp h with h|h
      ·show H p h
      ·rw[vx.mp h];show M
     ·rw[show CJ _ w n (.bag r)=.bag _ from if_neg c]
      show(vz (Wy _ _) s,λp h=>H p (VR.mp h).1)
    |txt=>exact⟨w6 _,nofun⟩
  ·cases e.lf with
   |none=>rfl
   |some L=>cases L with
    |bag r=>
     change a8 (kdL<|if w="put" then .bag _ else .bag _)=_
     split <;> rfl
    |_=>rfl
abbrev dF(own:Str):Nat->k_ En->k_ Ak->k_ En
 |_,E,[]=>E
 |i,E,A::As=>dF own (i+1) (rH E (Ya i) A) As
abbrev Val(own:Str):Nat->k_ En->k_ Ak->Prop
 |_,_,[]=>True
 |i,E,A::As=>AkV E A/\AJ A/\ZT (i+1) (rH E (Ya i) A) As
def Val.pl:∀{As:k_ Ak}{i:Nat}{E:k_ En},ZT i E As->∀A∈As,AJ A
 |B::As,i,E,v,A,h=>by
  rcases v8.mp h with rfl|h
  ·show v.2.1
  ·show Val.pl v.2.2 A h
def GE.run:∀{As:k_ Ak}{i:Nat}{E:k_ En},Zs i E->ZT i E As->Zs (i+As.l) (βP As)
 |[],_,_,G,_=>G
 |A::As,i,E,G,v=>by have:=GE.run (G.step v.1) v.2.2;rw[yz,show i+(As.l+1)=i+1+As.l by omega];show this
def xX:∀{As:k_ Ak}{i:Nat}{E:k_ En}{B:Ak},βP (As++[B])=rH (βP As) (Ya<|i+As.l) B
 |[],_,_,_=>rfl
 |A::As,i,E,B=>by
  change dF own _ _ (As++[B])=_
  rw[xX,yz,show i+(As.l+1)=i+1+As.l by omega];rfl
def Val.snoc:∀{As:k_ Ak}{i:Nat}{E:k_ En}{B:Ak},ZT i E As->AkV (βP As) B->AJ B->ZT i E (As++[B])
 |[],_,_,_,_,v,p=>⟨v,p,trivial⟩
 |A::As,i,E,B,v,w,p=>⟨v.1,v.2.1,Val.snoc v.2.2 w p⟩
def AM:∀{As:k_ Ak}{i:Nat}{E:k_ En},(∀A∈As,A=.settle)->βP As=E
 |[],_,_,_=>rfl
 |A::As,i,E,h=>by
  rw[h A vo]
  change dF own _ E As=E
  show AM λB H=>h B<|vr _ H
def CO:∀{As:k_ Ak}{i:Nat}{B:Ak},ZA (As++[B])=ZA As++[YA (i+As.l) B]
 |[],_,_=>rfl
 |A::As,i,B=>by
  change mkD own i A::dsF own _ (As++[B])=_
  rw[CO,yz,show i+(As.l+1)=i+1+As.l by omega];rfl
end
def FS.low{lt:Nat}(f:c_ E)(q:b'<=b):FS b' h l lt lm lf ll a E:=⟨f.fo,f.ti,f.ls,f.md,f.lv,λe H L z=>(γ4 z).low q,f.aj,f.ne,f.nd,f.ro,f.ln,vz q f.lo.1,vz q f.lo.2.1,vz q f.lo.2.2.1,vz q f.lo.2.2.2.1,vz q f.lo.2.2.2.2.1,λe H c=>vz q<|f.lo.2.2.2.2.2 e H c⟩
def Ek(g:h[r]?=a8 (.lst [])):kH h r []:=I1c [] g rfl λi v H=>by simp at H
section
variable{lt:Nat}
def Val.at:∀{As:k_ Ak}{i:Nat}{E:k_ En}{q:Nat}{A:Ak},ZT i E As->As[q]?=a8 A->AkV (βP<|As.take q) A
 |B::As,i,E,0,A,v,h=>by cases h;show v.1
 |B::As,i,E,q+1,A,v,h=>Val.at (As:=As) v.2.2 h
def Val.take:∀{As:k_ Ak}{i:Nat}{E:k_ En}(q),ZT i E As->ZT i E (As.take q)
 |[],_,_,q,_=>by rw[List.take_nil];trivial
 |B::As,i,E,0,_=>trivial
 |B::As,i,E,q+1,v=>⟨v.1,v.2.1,Val.take q v.2.2⟩
def FW:∀{As:k_ Ak}{i q:Nat}{d:Dd},(ZA As)[q]?=a8 d->∃A,As[q]?=a8 A/\d=YA (i+q) A
 |B::As,i,0,d,h=>by exists h;show I1b B rfl rfl
 |B::As,i,q+1,d,h=>by let(A,(H),z):=FW (As:=As) h;show I1b A H (by rw[z,show i+1+q=i+(q+1) by omega])
def El{As:k_ Ak}{q:Nat}{A:Ak}(G:Zs q E)(y:q<60)(v:AkV E A)(f:c_ E)(k:∀H z,FS b H l lt lm lf ll z (rH E (Ya q) A)->εT H->Q (.str "done") H):(bL [.ref l,dP<|mkD own q A] h).W Q:=GT f rfl (G.ok y v) k
abbrev FoI(own:Str)(As:k_ Ak)(h:PH)(r y n lo lt lm lf ll q:Nat)(δ:Ev)(h':PH):Prop:=t_ h'/\h'[lo]?=a8 (.lst<|(y_ As).map dP)/\(∃a,FS h.l h' h.l lt lm lf ll a<|dF own 0 []<|As.take q)/\∃x3,δ=[a8<|.tup [.ref r,.ref y],a_ n,δk 0,x3]
def Hd(v:ZT 0 [] As)(la:As.l<=40)(M:h[r]?=a8 (.lst []))(K:h[y]?=a8 (.lst []))(N:h[n]?=a8 (.lst<|(y_ As).map dP))(k:∀R Y H,t_ H->h.l<=R->kH H R (X1 [] As)->R≠Y->H[Y]?=a8 (.lst [])->Q (.tup [.ref R,.ref Y]) H):(Az [.tup [.ref r,.ref y],.ref n] h).W Q:=by
 show W_fn ?_;unfold FD;rw[aD];rw[qW];show AL (by simp) (Ek M) K W6 nofun (w6 _) nofun λJ E G l b a c P=>now ?_;simp;rw[aD];let(_,t,T,L,rfl,X,m):=cU<|FM v.pl ⋯ (c _ _ N) (Q:=λu H=>∃L,u=.ref L/\Ext J H/\H[L]?=a8 (.lst _)) λL H x _ g=>⟨L,rfl,x,g⟩;show oM (FoI own As h r y n L E G l b) (by simp[T]) m ⟨c.trans X,m,⟨_,P.keep X⟩,_,rfl⟩ (λq V H _ i=>i.2.1) ?_ ?_
 ·rintro q z V H Z ⟨x,j,⟨a,f⟩,x3,rfl⟩;rw[wm]at Z;let(d,D,rfl):=w8.mp Z;let(A,s,rfl):=FW D;let hq:=(vg.mp s).1;rw[VC];show(_,rfl,?_);unfold Ay;let p:=γI<|v.take q;rw[VC,zm,Nat.min_eq_left ⋯]at p;let S:As.take (q+1)=As.take q++[A]:=by rw[Xp,s];rfl
  simp[mM,mMx "hear" f.fo rfl,eP];show El (As:=As) p ⋯ (v.at s) f λt U O F=>?_;show(λi o e=>F.1 _ _ (Y7 0).1<|x _ _ e,F.2.2 _ _ j,⟨U,?_⟩,_,rfl);rw[S,xX,VC,zm,Nat.min_eq_left ⋯];show O
 ·rintro V H ⟨x,j,⟨a,f⟩,x3,rfl⟩;rw[vn,nU,Xx]at f;rfl';simp[mM,mMx "base" f.fo rfl,uK];show GU f (γI v).srt λR Y t X B C I w=>?_;show k R Y t (x.trans X) (vz x.len B) C I w
def Lx(G:Zs i E)(hi:i<=60)(c:kH h r E)(g:h[y]?=a8 (.lst []))(k:∀v H,t_ H->TR E 61 root v H->Q v H):(CC [.tup [.ref r,.ref y]] h).W Q:=by
 show W_fn ?_;unfold FF;rw[jT];let(v,z,e,t,m,l,L,a,rfl,X,F):=cU (AL (δ:=[a8<|.tup [.ref r,.ref y]]) (ms:=aA (mV 0) aC) (h:=h) (by simp) c g G.nd G.ro (vz G.ln hi) G.wk (Q:=λv H=>∃t m l L a,v=.ref _/\t_ H/\FS _ H _ t m l L a E) λH t m l L a x f=>⟨t,m,l,L,a,rfl,x,f⟩)
 change((aH "told" 0 nQ (eG "Folding" 1 bQ<|aA _ aC) aC) [a8 _] h).W _
 rw[mM,e,Rs.bind_ok,mMx "told" F.fo rfl];show Ei F G.ho (G.LR hi) λv H x c=>k v H (X.trans x) c
end
structure DA where
 d:Nat
 hh:Nat
 k:Nat
 e:Nat
 s:Nat
 r:Nat
 x:Nat
abbrev iJ(own:Str)(A:DA)(T:Seen)(fv:PV):k_ (Str×PV):=[("hand",.str own),("hands",.ref A.hh),("taken",sv T),("thrown",.tup []),("kept",.ref A.k),("early",.ref A.e),("settles",.ref A.s),("floor",.int 0),("ground",.tup [.ref A.r,.ref A.x]),("folding",fv)]
structure DS(B:Nat)(h:PH)(A:DA)(own:Str)(As:k_ Ak)(fv:PV):Prop where
 ob:h[A.d]?=some (.ins "Desk" (iJ own A (aZ own As.l) fv))
 kp:aV h A.k=some ((dsF own 0 As).map ent)
 ea:h[A.e]?=some (.dK [])
 se:∃kvs,h[A.s]?=some (.dK kvs)/\kvs.l<=As.l
 gr:h[A.r]?=some (.lst [])/\h[A.x]?=some (.lst [])
 lo:A.d<B/\A.k<B/\A.e<B/\A.s<B
 ne:A.k≠A.e/\A.k≠A.s/\A.e≠A.s
variable{A:DA}{fv:PV}
def DS.fh(D:r_ 0):aK "hand" (.ref A.d) h=.ok (.str own) h:=εb rfl
def DS.ft(D:r_ 0):aK "taken" (.ref A.d) h=.ok (sv<|aZ own As.l) h:=εb rfl
def DS.fk(D:r_ 0):aK "kept" (.ref A.d) h=.ok (.ref A.k) h:=εb rfl
def DS.fe(D:r_ 0):aK "early" (.ref A.d) h=.ok (.ref A.e) h:=εb rfl
def DS.ff(D:r_ 0):aK "floor" (.ref A.d) h=.ok (.int 0) h:=εb rfl
def DS.fg(D:r_ 0):aK "ground" (.ref A.d) h=.ok (.tup [.ref A.r,.ref A.x]) h:=εb rfl
def DS.fo(D:r_ 0):aK "folding" (.ref A.d) h=.ok fv h:=εb rfl
def DS.dk(D:r_ 0):A.d≠A.k:=bM D.kp D.ob rfl
def DS.de(D:r_ 0):A.d≠A.e:=λz=>by have:=D.ob;rw[z,D.ea]at this;cases this
def DS.ds(D:r_ 0):A.d≠A.s:=λz=>by let(R,(e),_):=D.se;rw[<-z,D.ob]at e;cases e
def DS.keep(D:r_ 0)(k:∀(i) o,i<B->h[i]?=a8 o->h'[i]?=a8 o)(l:∀(i:Nat) xs,h[i]?=a8 (.lst xs)->h'[i]?=a8 (.lst xs)):XQ As fv:=⟨q7 D.lo.1 D.ob,bF D.kp λo e=>q7 D.lo.2.1 e,q7 D.lo.2.2.1 D.ea,let ⟨R,a,b⟩:=D.se;(I1b R (q7 D.lo.2.2.2 a) b),⟨l _ _ D.gr.1,l _ _ D.gr.2⟩,D.lo,D.ne⟩
def DS.ext(D:r_ 0)(x:t_ h'):XQ As fv:=D.keep (λi o _ e=>x i o e) λi s e=>x i _ e
def DS.fr(D:r_ 0)(f:Fr B h h'):XQ As fv:=D.keep f.1 f.2.2
def DS.setF(D:r_ 0)(g):DS B (h.set A.d<|.ins "Desk"<|iJ own A (YH As.l) g) A own As g:=
 let k:∀(i) o,i≠A.d->h[i]?=a8 o->(h.set A.d<|.ins "Desk"<|iJ own A (YH _) g)[i]?=a8 o:=λi o H e=>aI e<|xy H
 ⟨aR D.ob,bF D.kp λo e=>q7 (xy D.dk) e,q7 (xy D.de) D.ea,let ⟨R,a,b⟩:=D.se;(I1b R (q7 (xy D.ds) a) b),⟨q7 (λz=>by have:=D.gr.1;rw[z,D.ob]at this;cases this) D.gr.1,q7 (λz=>by have:=D.gr.2;rw[z,D.ob]at this;cases this) D.gr.2⟩,D.lo,D.ne⟩
def FS.desk{lt:Nat}(f:c_ E)(k:∀(i) o,b<=i->h[i]?=a8 o->h'[i]?=a8 o)(K:∀(i:Nat) (n:Str) fs,n≠"Desk" -> h[i]?=a8 (.ins n fs)->h'[i]?=a8 (.ins n fs)):X5 a E:=by
 show(q7 f.lo.1 f.fo,q7 f.lo.2.1 f.ti,q7 f.lo.2.2.2.1 f.ls,bF f.md λo=>k _ o f.lo.2.2.1,bF f.lv λo=>k _ o f.lo.2.2.2.2.1,λe H L q=>?_,f.aj,f.ne,f.nd,f.ro,f.ln,f.lo);let x:=γ4 q;let c:=f.lo.2.2.2.2.2 e H (by rw[q];rfl);cases L with
 |cnt i=>exact q7 c x
 |cho r=>let⟨s,z,y,X⟩:=x;show(s,q7 c z,q7 X y,X)
 |bag r=>let⟨s,z,y,X⟩:=x;show(s,q7 c z,q7 X y,X)
 |txt=>show E4g x λg m t s z y X u p w v=>?_;show I4g g m t s (q7 c z) (βW _ (by decide +kernel) y) (q7 w X) (βW _ (by decide +kernel) u) (q7 v p) w v
structure Df(B:Nat)(A:DA)(h h':PH):Prop where
 lo:∀(i:Nat) o,i<B->i≠A.d->i≠A.k->i≠A.s->h[i]?=some o->h'[i]?=some o
 ln:h.l<=h'.l
 ls:∀(i:Nat) xs,h[i]?=some (.lst xs)->h'[i]?=some (.lst xs)
variable{h2:PH}
def Df.tr(a:YR h')(b:Df B A h' h2):YR h2:=⟨λi o l z Z y e=>b.lo i o l z Z y<|a.lo i o l z Z y e,vz a.ln b.ln,λi x e=>b.ls i x<|a.ls i x e⟩
def Df.ext(x:t_ h'):YR h':=⟨λi o _ _ _ _ e=>x i o e,x.len,λi s e=>x i _ e⟩
def Df.fr(f:Fr B h h'):YR h':=⟨λi o l _ _ _ e=>f.1 i o l e,f.2.1,f.2.2⟩
abbrev fO(own:Str)(n:Nat):k_ (Key×PV):=if n=0 then[] else[(.inr own,.int n)]
def He:wL [sv<|aZ own n] h=.ok (.ref h.l) (h++[.dK<|fO own n]):=by unfold aZ fO;split <;> rfl
def BU(z:Int):(aS (fO own n)<|.inr own).getD (.int z)=.int (if n=0 then z else n):=by
 unfold fO;split
 ·rfl
 ·rw[aS,if_pos rfl];rfl
def QT(k:∀h',t_ h'->Q (sv<|aZ own<|n+1) h'):(vM [sv<|aZ own n,pv<|nmI own n] h).W Q:=by
 let e1:YH (n+1)=[(own,(n:Int)+1)]:=by unfold aZ;rw[if_neg ⋯];simp
 rw[e1]at k;show W_fn ?_;simp[vL];show W_fn ?_;let d:=He (own:=own) (n:=n) (h:=h);let lK:(fO own n).length<=1:=by unfold fO;split <;> simp
 let pK:dW (fO own n) (.inr own) (.int<|(n:Int)+1)=[(.inr own,.int<|(n:Int)+1)]:=by
  unfold fO dW;split
  ·rfl
  ·rw[aS,if_pos rfl];simp
 obtain⟨g,dg,mg⟩:∃g:Int,(aS (fO own n)<|.inr own).getD (.int<|(n:Int)+1)=.int g/\g<=(n:Int)+1:=⟨_,BU _,by split <;> omega⟩;generalize fO own n=K at d lK pK dg;let x0:t_ (h++[MO.dK K]):=m_ _;let gK:(h++[MO.dK K])[h.length]?=a8 (.dK K):=aE;let e3:(h++[MO.dK K]).set h.l (.dK [(.inr own,.int<|(n:Int)+1)])=h++[.dK [(.inr own,.int<|(n:Int)+1)]]:=by rw[List.set_append_right _ _<|vk _,Nat.sub_self];rfl
 let hp:=Cr (x:=own) (z:=.int<|(n:Int)+1) gK ⋯;rw[pK,e3]at hp;simp[Av,aD,d];rfl';rw[aD];show JM (xs:=[pv<|nmI own n]) (λq δ h'=>(q=0->h'=h++[.dK K])/\(q=1->h'=h++[.dK [(.inr own,.int<|(n:Int)+1)]])/\∃x3 x4,δ=[a8<|sv<|aZ own n,a8<|.tup [pv<|nmI own n],δk 0,x3,x4]) (.inl<|by simp) ⟨λ_=>rfl,nofun,_,_,rfl⟩ ?_ ?_
 ·rintro q x δ h' hx ⟨h0,_,x3,x4,rfl⟩;cases q with
  |succ q=>simp at hx
  |zero=>
  exists hx
  cases h0 rfl
  show A0 rfl ?_;let mx:¬ (n:Int)+1<g:=⋯;simp[sN,zT gK,DE gK,dg,nmI,mx,hp]
 ·rintro δ h' ⟨_,h1,x3,x4,rfl⟩;cases h1 rfl
  rfl';let g:=aE (h:=h) (o:=MO.dK [((.inr own:Key),PV.int<|(n:Int)+1)]);let x1:t_ (h++[MO.dK [((.inr own:Key),PV.int<|(n:Int)+1)]]):=m_ _;generalize h++[MO.dK [((.inr own:Key),PV.int<|(n:Int)+1)]]=h1 at g x1;let g1:(h1++[MO.vw 0 h.length])[h1.length]?=a8 (.vw 0 h.l):=aE;let(m,(_),ok):=(DU (kss:=[[.inr own,.inl<|(n:Int)+1]]) (b:=false) (sh:=[true]) λks h=>by rw[vx.mp h];rfl);let hs:=Cu g1 (ZN g)<|JV ok;let hv:cM (.ref h.l) [] h1=.ok (.ref h1.l) (h1++[.vw 0 h.length]):=mW g rfl;simp[zT g,hv,hs];let e4:oI [.ref<|h1.l+1] (h1++[.vw 0 h.length,.lst [.tup [kP<|.inr own,.int<|(n:Int)+1]]])=.ok (sv [(own,(n:Int)+1)]) (h1++[.vw 0 h.length,.lst [.tup [kP<|.inr own,.int<|(n:Int)+1]]]):=by simp[oI,aJ,sv,kP]
  rw[e4,iX];show k _<|x1.trans<|Ext.app _ _
variable{X:Ak}
def FX(D:r_ 0)(p:AJ X)(hn:As.l<=100)(k:∀h',YR h'->XQ (As++[X]) fv->(∀(i:Nat) o,B<=i->h[i]?=a8 o->h'[i]?=a8 o)->(∀(i:Nat) (cn:Str) fs,cn≠"Desk" -> h[i]?=a8 (.ins cn fs)->h'[i]?=a8 (.ins cn fs))->Q .non h'):(jH [.ref A.d,dP<|mkD own As.l X] h).W Q:=by
 let lS:(y_ As).length=As.l:=nU;let hw:Wf (εg X):=Ln p.1 p.2;let ea:y_ (As++[X])=y_ As++[εg X]:=by rw[CO,VC]
 let nd:((y_<|As++[X]).map (·.nm)).Nodup:=CM;let eT:(As++[X]).length=As.l+1:=by simp
 show W_fn ?_;unfold jG;obtain⟨x,r,ex⟩:∃(x:Str)(r:E_ 0),akP X=.str x::r:=by cases X <;> exact⟨_,_,rfl⟩
 let ed:dP (εg X)=.tup [pv<|nmI own As.length,sv<|aZ own As.length,.tup (.str x::r)]:=by unfold dP;rw[<-ex];rfl
 rw[aD,ed];simp;rfl';rw[<-ed,aD];let nw:Ya As.l∉(y_ As).map (·.nm):=λz=>by rw[ea,yo,zq]at nd;show nd.2.2 _ z (Ya As.l) (by simp[mkD,nmI]) rfl
 let hp:gW (.ref A.k) (pv<|nmI own As.l) (dP<|mkD own As.l X) h=a8 (εc<|.dD<|(y_<|As++[X]).map ent):=by
  have:=jW (z:=dP<|mkD own As.l X) D.kp (xs:=[.str (Ya As.l).1,.int (Ya As.l).2]) rfl (by rw[vn];omega);let e2:=GM (es:=y_ As) (d:=εg X) λy hy e=>absurd (v7.mpr ⟨y,hy,e⟩) nw;rw[if_neg<|show ¬ (εg X).nm∈_ from nw]at e2
  rw[ea,<-e2];show this
 simp[D.fk];show A0 hp<|now ?_;let(ko,(pz),_):=iH D.kp;let jc:(εc<|.dD<|(y_<|As++[X]).map ent)[A.d]?=_:=aI D.ob<|xy D.dk;let ot:aV (εc<|.dD<|(y_<|As++[X]).map ent) A.k=a8 ((y_<|As++[X]).map ent):=eY<|aR pz;let fq:∀(i:Nat) o,i≠A.k->h[i]?=a8 o->(εc<|.dD<|(y_<|As++[X]).map ent)[i]?=a8 o:=λi o hi e=>aI e<|xy hi;let uy:(εc<|.dD<|(y_<|As++[X]).map ent).length=h.l:=wo;generalize h.set A.k (.dD<|(y_<|As++[X]).map ent)=h1 at jc ot fq uy;rw[aD];let uq:aK "taken" (.ref A.d) h1=.ok (sv<|aZ own As.l) h1:=aP jc rfl;simp[uq];show QT λh2 x2=>?_
 try simp
 show A0 (cR (x2 _ _ jc)<|by simp[iJ])<|now ?_;let eF:jO "taken" (sv<|aZ own<|As.l+1) (iJ own A (YH As.l) fv)=iJ own A (YH (As++[X]).length) fv:=by rw[eT];rfl
 rw[eF];let ju:(h2.set A.d<|.ins "Desk"<|iJ own A (YH (As++[X]).length) fv)[A.d]?=_:=aR<|x2 _ _ jc;let dz:∀(i:Nat) o,i≠A.d->h1[i]?=a8 o->(h2.set A.d<|.ins "Desk"<|iJ own A (YH (As++[X]).length) fv)[i]?=a8 o:=λi o hi e=>aI (x2 _ _ e)<|xy hi;let ln2:h1.l<=(h2.set A.d<|.ins "Desk"<|iJ own A (YH (As++[X]).length) fv).length:=by rw[wo];show x2.len
 generalize h2.set A.d (.ins "Desk"<|iJ own A (YH (As++[X]).length) fv)=h3 at ju dz ln2;let(R,(sR),lR):=D.se;let s3:=dz _ _ (xy D.ds)<|fq _ _ (xy D.ne.2.1) sR;let qg:aV h3 A.k=a8 ((y_<|As++[X]).map ent):=bF ot λo e=>dz _ _ (xy D.dk) e;let ug:=dz _ _ (xy D.de)<|fq _ _ (xy D.ne.1) D.ea;let nj:aK "settles" (.ref A.d) h3=.ok (.ref A.s) h3:=aP ju rfl;let gv:∀{i:Nat}{o:MO},h[i]?=a8 o->(∀fs,o≠.ins "Desk" fs)->i≠A.d:=λe z y=>by rw[y,D.ob]at e;exists e;show z _ rfl
 let nq:∀{i:Nat}{o:MO},h[i]?=a8 o->NR o=false->i≠A.s:=λe z y=>by rw[y,sR]at e;exists e;exists z
 let fin:∀h4,h3.l<=h4.l->(∀(i:Nat) o,i≠A.s->h3[i]?=a8 o->h4[i]?=a8 o)->(∃kvs,h4[A.s]?=a8 (.dK kvs)/\kvs.l<=As.l+1)->Q .non h4:=λh4 l4 fy s4=>by let kl:∀(i:Nat) xs,h[i]?=a8 (.lst xs)->h4[i]?=a8 (.lst xs):=λi xs e=>fy _ _ (nq e rfl)<|dz _ _ (gv e λ_=>nofun)<|fq _ _ (bM D.kp e rfl) e;show k h4 ⟨λi o _ a b c e=>fy _ _ c<|dz _ _ a<|fq _ _ b e,⋯,kl⟩ ⟨fy _ _ D.ds ju,bF qg λo e=>fy _ _ D.ne.2.1 e,fy _ _ D.ne.2.2 ug,by rw[eT];show s4,⟨kl _ _ D.gr.1,kl _ _ D.gr.2⟩,D.lo,D.ne⟩ (λi o hi e=>fy _ _ (by have:=D.lo.2.2.2;omega)<|dz _ _ (by have:=D.lo.1;omega)<|fq _ _ (by have:=D.lo.2.1;omega) e) λi cn fs nc e=>fy _ _ (nq e rfl)<|dz _ _ (gv e λ_ z=>nc (MO.ins.inj z).1)<|fq _ _ (bM D.kp e rfl) e
 by_cases c:x="settle"
 ·let r8:=Cr (x:=own) (z:=dP<|mkD own As.l X) s3 ⋯;simp[c,pv0,nj];show A0 r8 ?_;show fin _ (by rw[wo];show vk _) (λi o hi e=>aI e<|xy hi)<|I1b _ (aR s3) ?_;have:=zU R (Wg own)<|dP<|mkD own As.l X;omega
 ·simp[c];show fin h3 (vk _) (λ_ _ _ e=>e)<|I1b R s3 ⋯
def O5{d:Nat}(e:h[n]?=a8 (.vw i d)):Zr n=a9:=by simp[aV,e]
def IM{d:Nat}(e:h[n]?=a8 (.vw 1 d))(t:Zr d=εR 0):bW [.ref n] h=.ok (.ref h.l) (h++[.lst (kvs.map (·.2))]):=by simp[bW,(O5 e),vB,eX,e,vE t]
def AN(D:r_ 0)(p:∀X∈As,AJ X)(a:As.l<=60)(k:∀l v,t_ v->h.l<=l->v[l]?=a8 (.lst<|(y_ As).map dP)->Q (.ref l) v):(pG [.ref A.d] h).W Q:=by
 show W_fn ?_;unfold pF;let(o,(O),c,_):=gR D.kp;simp[D.fk,c,Gz D.kp];let x:t_ (h++[δ7 A.k]):=m_ _;let g:(h++[δ7 A.k])[h.length]?=a8 _:=aE;let L:(h++[δ7 A.k]).length=h.l+1:=by simp
 generalize h++[δ7 A.k]=h1 at x g L;rw[IM g<|DC x D.kp];let e:((y_ As).map ent).map (·.2)=(y_ As).map dP:=by rw[w9];rfl
 rw[e];simp;let z:YQ (h1++[MO.lst<|(y_ As).map dP]):=m_ _;show FM p ⋯ aE λl H y w G=>?_;show k l H (x.trans<|z.trans y) (by have:=z.len;have:=x.len;omega) G
abbrev DI(B:Nat)(A:DA)(own:Str)(As:k_ Ak)(h:PH)(l lo lt lm lf ll:Nat)(q:Nat)(δ:Ev)(h':PH):Prop:=YR h'/\XQ As (.ref l)/\h'[lo]?=a8 (.lst<|(y_ As).map dP)/\(∃a,FS h.l h' l lt lm lf ll a [])/\∃x1,δ=[a_ A.d,x1]
abbrev FV(B:Nat)(h:PH)(own:Str)(As:k_ Ak)(fv:PV):Prop:=(fv=.non/\∀X∈As,X=.settle)\/∃l lt lm lf ll a,fv=.ref l/\FS B h l lt lm lf ll a (X1 [] As)
def vV(D:r_ 0)(V:αd 0)(hB:B<=h.l)(la:As.l<=40)(k:∀l T m v t a h',YR h'->XQ As (.ref l)->FS B h' l T m v t a (X1 [] As)->Q (.ref l) h'):(kW [.ref A.d] h).W Q:=by
 show W_fn ?_;unfold kU;rw[aD];rcases V with⟨rfl,w⟩|⟨l,T,m,v,t,a,rfl,F⟩
 ·let E:vIs .non .non h=.ok (.bl true) h:=rfl;simp[D.fo,E];rw[aD,A8];show AL (by simp[D.fg]) (Ek D.gr.1) D.gr.2 W6 nofun (w6 _) nofun λH T m v t a Z F1=>?_;let n:=D.ext Z;let C:=cR (f:="folding") (p:=.ref h.l) n.ob (by simp[iJ]);rw[show jO "folding" (.ref h.l) (iJ own A (YH As.l) .non)=iJ own A (YH As.l) (.ref h.l) from rfl]at C
  simp;show A0 C<|now ?_;let j:=n.setF<|.ref h.l;let K:∀(i:Nat) o,i≠A.d->H[i]?=a8 o->(H.set A.d<|.ins "Desk"<|iJ own A (YH As.l)<|.ref h.l)[i]?=a8 o:=λi o I e=>aI e<|xy I;let s:(H.set A.d<|.ins "Desk"<|iJ own A (YH As.l)<|.ref h.l).length=H.l:=wo;generalize H.set A.d (.ins "Desk"<|iJ own A (YH As.l)<|.ref h.l)=h2 at j K s;let O:∀(i:Nat) S,H[i]?=a8 (.lst S)->h2[i]?=a8 (.lst S):=λi S e=>βW (λz=>by rw[z,n.ob]at e;cases e) e;let F2:=F1.desk (λi o I e=>βW (by have:=D.lo.1;omega) e) λi cn fs nc e=>βW (λz=>by rw[z,n.ob]at e;show nc (MO.ins.inj<|wu e).1.symm) e;let f2:YR h2:=⟨λi o _ a _ _ e=>βW a<|Z _ _ e,by rw[s];show Z.len,λi S e=>O _ _<|Z _ _ e⟩;let(_,h3,e3,lo3,rfl,x3,g3):=cU (AN j (λX b=>by rw[w X b];show(rfl,λ_ _ _ z=>by exists z)) ⋯ (Q:=λu h'=>∃L:Nat,u=.ref L/\Ext h2 h'/\h'[L]?=a8 (.lst<|(y_ As).map dP)) λL h' x _ g=>⟨L,rfl,x,g⟩);let(_,h4,e4,L,rfl,x4,g4):=cU<|QN w ⋯ g3 (Q:=λu h'=>∃L:Nat,u=.ref L/\Ext h3 h'/\h'[L]?=a8 (.lst<|(y_ As).map dP)) λL h' x g=>⟨L,rfl,x,g⟩;let y:=x3.trans x4;show oM (DI B A own As h h.l L T m v t) (by simp[mM,mMx "held" j.ob rfl,dM,e3,e4]) g4 ⟨f2.tr<|Df.ext y,j.ext y,g4,⟨_,F2.keep y⟩,_,rfl⟩ (λq δ h' _ i=>i.2.2.1) ?_ ?_
  ·rintro q z δ h' hz ⟨P,c,g5,⟨G,R⟩,N,rfl⟩;rw[wm]at hz;let(d,hd,rfl):=w8.mp hz;let(X,b,rfl):=FW hd;rw[VC];show(_,rfl,?_);unfold iF;rw[gQ];simp;show E1 (YA q X) (by change(YH q).length<=100;unfold aZ;split <;> simp) h' _ λh6 Y=>?_;let U:=c.ext Y;let M:=R.keep Y;let tq:tot (YA q X).seen=q:=AI own q;let pos:(0:Int)<1+tot (YA q X).seen:=by rw[tq];omega
   simp[U.ff,pos,mM,U.fo,mMx "hear" M.fo rfl,eP];show GT M rfl (by rw[w X<|xw b];trivial) λh7 a7 J r=>?_;rw[w X<|xw b]at J;let lB:∀(i:Nat) o,i<B->h6[i]?=a8 o->h7[i]?=a8 o:=λi o I e=>r.1 _ _ ⋯ e;show((P.tr<|Df.ext Y).tr ⟨λi o l _ _ _ e=>lB i o l e,r.2.1,r.2.2⟩,U.keep lB r.2.2,r.2.2 _ _<|Y _ _ g5,⟨a7,J⟩,_,rfl)
  ·rintro δ h' ⟨P,c,g5,⟨G,R⟩,N,rfl⟩;rfl';simp[c.fo];show k h.l T m v t G h' P c ?_;rw[AM w];show R.low hB
 ·let E:vIs (.ref l) .non h=.ok (.bl false) h:=rfl;simp[D.fo,E];rfl';simp[D.fo];show q7 _ _ _ _ _ (Df.ext<|Ext.refl _) D F
def Ly(D:r_ 0)(V:αd 0)(hB:B<=h.l)(v:ZT 0 [] As)(la:As.l<=40)(k:∀l r y h1 h',YR h1->DS B h1 A own As (.ref l)->FV B h1 own As (.ref l)->YQ h'->h1.l<=r->kH h' r (X1 [] As)->r≠y->h'[y]?=a8 (.lst [])->Q (.tup [.ref r,.ref y]) h'):(sS [.ref A.d] h).W Q:=by
 let G:=GE.run (own:=own) GE.nil v;show W_fn ?_;unfold sQ;rw[jT];let(_,h1,e1,l,lt,lm,lf,ll,a,rfl,d1,D1,F1):=cU<|vV D V hB la (Q:=λu h'=>∃l lt lm lf ll a,u=.ref l/\YR h'/\XQ As (.ref l)/\FS B h' l lt lm lf ll a (X1 [] As)) λl lt lm lf ll a h' x y z=>⟨l,lt,lm,lf,ll,a,rfl,x,y,z⟩;let em:aH "folded" 0 dE (mV 0) aC [a_ A.d] h=.ok (.ref l) h1:=by simp[mM,mMx "folded" D.ob rfl,dE,e1]
 change((aH "base" 0 uK (aH "folded" 0 dE (mV 0) aC) aC) [a_ A.d] h).W _
 rw[mM,em,Rs.bind_ok,mMx "base" F1.fo rfl];simp[uK];show GU F1 G.srt λr y h2 x2 b2 rr ny gy=>?_;show k l r y h1 h2 d1 D1 (.inr<|I6b l lt lm lf ll a rfl F1) x2 b2 rr ny gy
def Lz(D:r_ 0)(V:αd 0)(p:B<=h.l)(v:ZT 0 [] As)(o:As.l<=40)(k:∀l w h',YR h'->XQ As (.ref l)->α6 As (.ref l)->TR (X1 [] As) 61 root w h'->Q w h'):(pY [.ref A.d] h).W Q:=by
 let G:=γI v;rw[VC]at G;show W_fn ?_;unfold pW;rw[jT];let(_,H,e,l,t,m,f,L,a,rfl,r,s,F):=cU<|vV D V p o (Q:=λu h'=>∃l t m f L a,u=.ref l/\YR h'/\XQ As (.ref l)/\FS B h' l t m f L a (X1 [] As)) λl t m f L a h' x y z=>⟨l,t,m,f,L,a,rfl,x,y,z⟩;let E:aH "folded" 0 dE (mV 0) aC [a_ A.d] h=.ok (.ref l) H:=by simp[mM,mMx "folded" D.ob rfl,dE,e]
 change((aH "told" 0 nQ (aH "folded" 0 dE (mV 0) aC) aC) [a_ A.d] h).W _
 rw[mM,E,Rs.bind_ok,mMx "told" F.fo rfl];show Ei F G.ho (G.LR ⋯) λw q X c=>k l w q (r.tr<|Df.ext X) (s.ext X) (.inr<|I6b l t m f L a rfl<|F.keep X) c
def Em(D:r_ 0)(k:∀r y h',t_ h'->h.l<=r->h'[r]?=a8 (.lst [])->r≠y->h'[y]?=a8 (.lst [])->Q (.tup [.ref r,.ref y]) h'):(pQ [.ref A.d] h).W Q:=by show W_fn ?_;unfold pP;let X:t_ (h++[MO.lst []]):=m_ _;simp[D.fg];show Hd (own:=own) (As:=[]) trivial (w6 _) (βg D.gr.1) (βg D.gr.2) aE λr y h' x b z0 n G=>E1c z0 λv g l _=>?_;have:=Wc l;rw[this]at g;show k r y h' (X.trans x) (vz X.len b) g n G
def QU{x:Str}(h):cI (.str x) (.tup [.str "make",.str "move"]) h=.ok (.bl<|decide (x="make" \/ x="move")) h:=by
 rw[show([PV.str "make",.str "move"]:E_ 0)=(["make","move"]:S2 0).map _ from rfl,vG]
 simp
def Tv{x:Str}(h):cI (.str x) (.tup [.str "mark",.str "clear"]) h=.ok (.bl<|decide (x="mark" \/ x="clear")) h:=by
 rw[show([PV.str "mark",.str "clear"]:E_ 0)=(["mark","clear"]:S2 0).map _ from rfl,vG]
 simp
def Tw{x:Str}(X:x="drop" \/ x="move")(h):eM [.str x] h=.ok .non h:=by
 let w:(eM [.str x] h).W λq H=>q=.non/\H=h:=by
  show W_fn ?_;unfold mY;let e:vGd [("add","count"),("choose","choice"),("put","bag"),("take","bag"),("write","text"),("cut","text"),("mark","text"),("clear","text")] (.str x) h=.ok .non h:=by rcases X with rfl|rfl <;> rfl
  simp[e]
 let(q,H,(e),z0,z1):=cU w;subst z0;subst z1;show e
def Eo{lt:Nat}{t:Nm}(f:c_ E)(q:fnd (tE E) t=a8 e){x:Str}(H:(∃L,e.kd=kdL L/\E7 x L)\/x="drop" \/ x="move"):gI [.ref lt,.str x,pv t] h=.ok .non h:=by
 let y:=Hb f q;let I:vIs (.tup [e.hd,e.sp]) .non h=.ok (.bl false) h:=rfl;let d:γH t=.str e.kd:=by unfold aY;rw[if_neg<|λz=>f.ro e (cL q).1<|(cL q).2.trans z,q]
 let w:(gI [.ref lt,.str x,pv t] h).W λq u=>q=.non/\u=h:=by
  show W_fn ?_;unfold kN;rw[aD];rcases H with⟨L,K,v⟩|H
  ·let k:=qO f t;rw[d]at k;simp[OE v];rfl';let i:iV (.str<|kdL L) .non h=.ok _ h:=rfl;simp[mMx "held" f.ti rfl,qJ,y,I,i,mM,mMx "kind_of" f.ti rfl,bX,k,K]
  ·simp[Tw H];rfl';let i:iV .non .non h=.ok _ h:=rfl;simp[mM,mMx "held" f.ti rfl,qJ,y,I,i]
 let(q,u,(e),z0,z1):=cU w;subst z0;subst z1;show e
def BV{lt:Nat}{t:Nm}(f:c_ E)(q:fnd (tE E) t=a8 e){x:Str}{r:E_ 0}(X:(∃L,e.kd=kdL L/\E7 x L)\/x="drop"):bT [.ref l,.tup (.str x::pv t::r)] h=.ok .non h:=by
 let w:(bT [.ref l,.tup (.str x::pv t::r)] h).W λq i=>q=.non/\i=h:=by
  let w:¬ x="make" /\ ¬ x="move" /\ ¬ x="cut" /\ ¬ x="mark" /\ ¬ x="clear" := by
   rcases X with⟨L,_,H⟩|rfl
   ·cases L with
    |cnt i=>subst H;decide +kernel
    |cho i=>subst H;decide +kernel
    |bag i=>rcases H with rfl|rfl <;> decide +kernel
    |txt=>exact H.elim
   ·decide +kernel
  show W_fn ?_;unfold gY;rw[aD];simp;rfl';rw[aD];simp[w,f.ft,Eo f q<|X.imp id .inl];rfl';rw[aD];simp[QU,w];rfl';simp[Tv,w]
 let(q,i,(e),z0,z1):=cU w;subst z0;subst z1;show e
def LA{lt:Nat}(f:c_ E){k:Str}(s:E8 E p z):bT [.ref l,.tup [.str "make",.str k,pv p,z]] h=.ok .non h:=by
 let w:(bT [.ref l,.tup [.str "make",.str k,pv p,z]] h).W λq H=>q=.non/\H=h:=by
  show W_fn ?_;unfold gY;rw[aD];simp;rfl';rw[aD];simp;rfl';rw[aD];simp[QU,mM,mMx "takes" f.ti rfl,jD,f.ft,(uO f<|s.imp id λq=>⟨q.1,_,q.2⟩)];rfl';let n:¬ (v3 "make")="move" := by decide +kernel
  let N:¬ (v3 "make")="cut" := by decide +kernel
  let y:¬ ((v3 "make")="mark" \/ (v3 "make")="clear"):=by decide +kernel
  simp[n,N,Tv,y]
 let(q,H,(e),z0,z1):=cU w;subst z0;subst z1;show e
def LD{lt:Nat}{t:Nm}(f:c_ E)(q:fnd (tE E) t=a8 e){z:Str}(k:∀y,t_ y->Q .non y):(bT [.ref l,.tup [.str "move",pv t,pv root,.str z]] h).W Q:=by
 show W_fn ?_;unfold gY;rw[aD];simp;rfl';rw[aD];let n:¬ (v3 "move")="make" := by decide +kernel
 simp[n,f.ft,Eo f q<|.inr<|.inr rfl];rfl';rw[aD];simp[QU,mM,mMx "takes" f.ti rfl,jD,f.ft,(uO f<|.inl ⟨by unfold aY;rw[if_pos rfl],z,rfl⟩)];rfl';simp[f.ft];show W_fn ?_;unfold nB;rw[aD];simp[mM,mMx "ring" f.ti rfl,xQ];show GS f λL H x g=>?_;rfl';simp[AF g];show k _ x
def LF{lt:Nat}(f:c_ E)(G:Zs i E)(v:AkV E X)(N:X≠.settle)(k:∀s,t_ s->Q .non s):(bT [.ref l,.tup<|akP X] h).W Q:=by
 cases X with
 |settle=>exact absurd rfl N
 |make x p z=>show(bT [.ref l,.tup [.str "make",.str x,pv p,z]] h).W Q;rw[LA f v.2,iX];show k h<|Ext.refl _
 |drop t=>let⟨e,q⟩:=v;change(bT [.ref l,.tup (.str "drop" :: pv t::[])] h).W Q;rw[BV f q<|.inr rfl,iX];show k h<|Ext.refl _
 |move t z=>let⟨e,q⟩:=v;show LD f q k
 |leaf w t n=>
  let(e,L,(q),y,H):=v;let K:e.kd=kdL L:=by
   have:=(G.wk e (cL q).1).2;rw[y]at this;cases z:lf0 e.kd with
   |none=>rw[z]at this;exists this
   |some u=>rw[z]at this;show(FU z).symm.trans (wu this)
  change(bT [.ref l,.tup (.str w::pv t::[.int n])] h).W Q
  rw[BV f q<|.inl<|I1b L K H,iX];show k h<|Ext.refl _
def QV(D:r_ 0){r:Ev}:δ5 (mCB wL<|aA (mUn (aK "taken")<|mV 0) aC) (aA (mUn (aK "hand")<|mV 0)<|aA (e_ 0) aC) (a_ A.d::r) h=.ok (.int As.l) (h++[.dK<|fO own As.length]):=by let x:t_ (h++[MO.dK<|fO own As.length]):=m_ _;let g:(h++[MO.dK<|fO own As.length])[h.length]?=a8 (.dK<|fO own _):=aE;let f:=(D.ext x).fh;let e:=He (own:=own) (n:=As.l) (h:=h);let l:(aS (fO own As.l) _).getD _=.int As.l:=(BU 0).trans (by split <;> simp[*]);generalize h++[MO.dK<|fO own _]=h1 at x g f e;simp[D.ft,e,zT g,f,DE g,l]
def Tx(D:r_ 0)(V:αd 0)(hB:B<=h.l)(v:ZT 0 [] As)(la:As.l<40)(vX:AkV (X1 [] As) X)(pX:AJ X)(k:∀h' Y,YR h'->XQ (As++[X]) Y->α6 (As++[X]) Y->Q (dP<|mkD own As.l X) h'):(vO [.ref A.d,.tup<|akP X] h).W Q:=by
 let G:=γI v;rw[VC]at G;obtain⟨x,r,ex,nb,sx⟩:∃(x:Str)(r:E_ 0),akP X=.str x::r/\¬ x="back" /\ (x="settle" ↔ X=.settle):=by
  cases X with
  |settle=>exact αF rfl (by decide +kernel) ⟨λ_=>rfl,λ_=>rfl⟩
  |make k p z=>exact αF rfl (by decide +kernel) ⟨λz=>YJ (by decide +kernel),λz=>by exists z⟩
  |drop t=>exact αF rfl (by decide +kernel) ⟨λz=>YJ (by decide +kernel),λz=>by exists z⟩
  |move t z=>exact αF rfl (by decide +kernel) ⟨λz=>YJ (by decide +kernel),λz=>by exists z⟩
  |leaf w t n=>exact αF rfl ((pX.2 w t n rfl).2) ⟨λz=>YJ (pX.2 w t n rfl).1,λz=>by exists z⟩
 show W_fn ?_;unfold vN;rw[aD,qW];change (δ5 (mCB wL<|aA (mUn _<|mV 0) aC) (aA (mUn _<|mV 0)<|aA _ aC) [a8 _,a8 _,a9,a9] h).W _;rw[QV D (r:=[a8<|.tup<|akP X,a9,a9]),iX];let w:t_ (h++[MO.dK<|fO own As.length]):=m_ _;generalize h++[MO.dK<|fO own _]=h1 at w;let s:=D.ext w;let o:FV B h1 own As fv:=V.imp id λz0=>E6b z0 λl D lm lf ll a e f=>I6b l D lm lf ll a e<|f.keep w;let i0:∀hz:PH,vIx (.tup<|akP X) (.int 0) hz=.ok (.str x) hz:=λhz=>by rw[ex];simp
 rfl';rw[aD];let mid:∀f p,(p=.non->X=.settle)->Df B A h1 f->DS B f A own As p->FV B f own As p->Lt (aF (aT 3<|aX<|aA (aX<|aA (mUn (aK "hand")<|mV 0)<|aA (Y5 (mV 2)<|e_ 1) aC)<|aA (mUn (aK "taken")<|mV 0)<|aA (mV 1) aC)<|aF (dY<|aH "take_in" 1 sO (mV 0)<|aA (mV 3) aC)<|aF (bE (aN<|aB bU (o_ (mV 1)<|e_ 0)<|mC<|.str "back") bN<|bE (aN<|aB iV (mUn (aK "folding")<|mV 0)<|mC .non) (dY<|aH "hear" 1 eP (mUn (aK "folding")<|mV 0)<|aA (mV 3) aC) bP)<|aQ<|mV 3) { nx:=λ_ h=>Q .non h,rt:=Q} [a_ A.d,a8<|.tup<|akP X,b0 As.length,a9] f:=by
  show λf p ns d2 y V2=>now ?_;rw[aD];let ed:PV.tup [.tup [.str own,.int<|(As.l:Int)+1],sv<|aZ own _,.tup<|akP X]=dP (YA _ X):=rfl;simp[y.fh,y.ft];rw[ed];rfl';rw[aD];simp[mM,mMx "take_in" y.ob rfl,sO];show FX y pX ⋯ λe d3 u kb ki=>?_;rfl';rw[aD,gQ];let V:=((Df.ext w).tr d2).tr d3;rcases V2 with⟨rfl,al⟩|⟨l,D,lm,lf,ll,a,rfl,F⟩
  ·let i1:iV .non .non e=.ok _ e:=rfl;simp[i0,nb,u.fo,i1];rfl';simp;show k e _ V u <|.inl ⟨rfl,λY hY=>?_⟩;rcases xj.mp hY with hY|hY
   ·show al Y hY
   ·rw[vx.mp hY];show ns rfl
  ·let q:=F.desk kb ki;let i1:iV (.ref l) .non e=.ok _ e:=rfl;simp[i0,nb,u.fo,i1,mM,mMx "hear" q.fo rfl,eP];show El (As:=As) G ⋯ vX q λh4 a4 F4 fr=>?_;rfl';simp;show k h4 _ (V.tr<|Df.fr fr) (u.fr fr)<|.inr<|I6b l D lm lf ll a4 rfl ?_;rw[xX,VC];show F4
 by_cases c:x="settle"
 ·simp[i0,nb,c];show mid h1 fv (λ_=>sx.mp c) (Df.ext<|Ext.refl _) s o
 ·simp[i0,nb,c];simp[mM,mMx "folded" s.ob rfl,dE];show vV s o (vz hB w.len) ⋯ λl D lm lf ll a f d2 y F=>?_;show LF F G vX (λz=>c<|sx.mpr z) λe x3=>?_;show mid e _ (λz=>by exists z) (d2.tr<|Df.ext x3) (y.ext x3)<|.inr<|I6b l D lm lf ll a rfl<|F.keep x3
def LG{α:Type}{xs:k_ α}{i:Int}(h:xs≠[]):∃x,βa (i%(xs.l:Int))=a8 x/\x∈xs:=by
 let y:=List.length_pos_iff.mpr h;let H:=Int.emod_nonneg i (show(xs.l:Int)≠0 by omega);let z:=Int.emod_lt_of_pos i (show(0:Int)<xs.l by omega);generalize i%(xs.l:Int)=j at H z;let J:j.toNat<xs.l:=⋯
 show I1b (xs[j.toNat]) ?_<|VL _;have:=hQ (v:=xs[j.toNat]) (show xs[j.toNat]?=_ by simp);rw[show((j.toNat:Nat):Int)=j by omega]at this;show this
def Ep(H:n≠0)(h):dS (.int v) (.int<|n) h=.ok (.int<|v%(n)) h:=by simp(disch:=omega)
def FY{t:Ev->PH->X7 0}{a b:Ms}{E:FE}(e:t δ h=.ok true h')(k:(a δ h').W E):(bE t a b δ h).W E:=by rw[gQ,e,iX];show k
def B'{t:Ev->PH->X7 0}{a:Ms}{E:FE}(e:t δ h=.ok false h')(k:Z9 h'):(bE t a bP δ h).W E:=by rw[gQ,e,iX,Ss];show k
abbrev WD(h:PH)(lw:Nat):Prop:=∃l1 l2 l3,h[lw]?=a8 (.dK [(.inr "count",.ref l1),(.inr "choice",.ref l2),(.inr "bag",.ref l3)])/\h[l1]?=a8 (.lst [.str "add"])/\h[l2]?=a8 (.lst [.str "choose"])/\h[l3]?=a8 (.lst [.str "put",.str "take"])
variable{kvs':k_ (Key×PV)}
def vW{kvs:k_ (Key×PV)}{x:Str}{v:PV}{r:k_ (Str×PV)}(g:h[n]?=a8 (.dK kvs))(l:kvs.l<1000)(q:dW kvs (.inr x) v=kvs'):qY n ((x,v)::r) h=qY n r (P_<|.dK kvs'):=by
 change(match h[n]? with
  |some (.dK kvs)=>if _<wa then qY n r (P_<|.dK<|dW kvs (.inr x) v) else .bad
  |_=>.bad)=_
 rw[g,<-q];show if_pos<|qF<|yw l
def LH(δ)(h):∃H,rX ["count","choice","bag"] (aA (cK<|aA (mC<|.str "add") aC)<|aA (cK<|aA (mC<|.str "choose") aC)<|aA (cK<|aA (mC<|.str "put")<|aA (mC<|.str "take") aC) aC) δ h=.ok (.ref h.l) H/\t_ H/\WD H h.l:=by
 let e:rX ["count","choice","bag"] (aA (cK<|aA (mC<|.str "add") aC)<|aA (cK<|aA (mC<|.str "choose") aC)<|aA (cK<|aA (mC<|.str "put")<|aA (mC<|.str "take") aC) aC) δ h=qY h.l [("count",.ref<|h.l+1),("choice",.ref<|h.l+2),("bag",.ref<|h.l+3)] (h++[.dK [],.lst [.str "add"],.lst [.str "choose"],.lst [.str "put",.str "take"]]):=by simp
 rw[e];let g:(h++[MO.dK [],.lst [.str "add"],.lst [.str "choose"],.lst [.str "put",.str "take"]])[h.length]?=a8 (.dK []):=by simp
 rw[vW (kvs':=[(.inr "count",.ref _)]) g (by simp) rfl,vW (kvs':=[(.inr "count",.ref _),(.inr "choice",.ref _)]) (aR g) (by simp) rfl,vW (aR<|aR g) (by simp) rfl];show(_,rfl,CK (CK (CK (m_ _)<|vk _)<|vk _)<|vk _,h.l+1,h.l+2,h.l+3,?_,aI (aI (aI (by simp) ⋯) ⋯) ⋯,aI (aI (aI (by simp) ⋯) ⋯) ⋯,aI (aI (aI (by simp) ⋯) ⋯) ⋯);show aR<|aR<|aR g
abbrev kdT(E:k_ En):k_ (Nm×PV):=(root,.str "map")::E.map λe=>(e.nm,.str e.kd)
def OH{t:Nm}(d:(E.map (·.nm)).Nodup)(r:∀e∈E,e.nm≠root)(H:t∈(kdT E).map (·.1)):∃k,fnd (kdT E) t=a8 (.str k)/\γH t=.str k/\((t=root/\k="map")\/∃e,fnd (tE E) t=a8 e/\e.kd=k):=by
 rcases v8.mp H with z|z
 ·show I1c ("map") ?_ ?_ (.inl ⟨z,rfl⟩)
  ·rw[z];show if_pos rfl
  ·unfold aY;show β6 0
 ·let(y,(Y),z0):=v7.mp z;subst z0;let(e,h,rfl):=v7.mp Y;let n:=r e h;let F:∀E,fnd (E.map λe=>(e.nm,PV.str e.kd)) e.nm=(fnd (tE E) e.nm).map λe=>.str e.kd:=λE=>by
   induction E with
   |nil=>rfl
   |cons u E i=>
    change(if u.nm=e.nm then a8 _ else fnd _ e.nm)=Option.map _ (if u.nm=e.nm then a8 u else fnd (tE E) e.nm)
    rw[i];split <;> rfl
  let f:=vU d h;show I1c e.kd ?_ ?_<|.inr ⟨e,f,rfl⟩
  ·change(if root=e.nm then a8 _ else fnd _ e.nm)=_
   rw[if_neg<|λz=>n z.symm,F,f];rfl
  ·unfold aY;rw[if_neg n,f]
variable{lw:Nat}
def LI(w:WD h lw)(k):cI (.str k) (.ref lw) h=.ok (.bl<|decide (k="count" \/ k="choice" \/ k="bag")) h:=by
 let(l,L,x,(g),_):=w;let d:¬ (v3 "count")="choice" /\ ¬ (v3 "count")="bag" /\ ¬ (v3 "choice")="bag" := by decide +kernel
 rw[Kv g];let e:∀z,(Wg z:Key)=Wg k↔k=z:=λz=>⟨λq=>(Sum.inr.inj q).symm,λq=>by rw[q]⟩;by_cases c:k="count"
 ·simp[aS,e,c]
 ·by_cases C:k="choice"
  ·subst C;simp[aS,d]
  ·by_cases y:k="bag"
   ·subst y;simp[aS,d]
   ·simp[aS,e,c,C,y]
def Tz(w:WD h lw){k:Str}(H:k="count" \/ k="choice" \/ k="bag"):∃(l:Nat)(G:E_ 0),vIx (.ref lw) (.str k) h=.ok (.ref l) h/\h[l]?=a8 (.lst G)/\G≠[]/\∀x∈G,∃y,x=.str y/\∀L,kdL L=k->E7 y L/\y≠"settle" /\ y≠"back" := by
 let(l1,l2,l3,(g),G,u,t):=w;let e:∀z,(Wg z:Key)=Wg k↔k=z:=λz=>⟨λq=>(Sum.inr.inj q).symm,λq=>by rw[q]⟩;let d:(v3 "count")≠"choice" /\ (v3 "count")≠"bag" /\ (v3 "count")≠"text" /\ (v3 "choice")≠"bag" /\ (v3 "choice")≠"text" /\ (v3 "bag")≠"text" := by decide +kernel
 let v:=Qg (x:=k) g;rcases H with rfl|rfl|rfl
 ·show I2d l1 _ (by rw[v];simp[aS]) G (by simp) λx X=>⟨"add",d0 X,λL q=>?_⟩;cases L with
  |cnt i=>exact⟨rfl,by decide +kernel,by decide +kernel⟩
  |cho r=>exact αj d.1
  |bag r=>exact αj d.2.1
  |txt=>exact αj d.2.2.1
 ·show I2d l2 _ (by rw[v];simp[aS,ofO,e,xy d.1]) u (by simp) λx X=>⟨"choose",d0 X,λL q=>?_⟩;cases L with
  |cnt i=>exact absurd q d.1
  |cho r=>exact⟨rfl,by decide +kernel,by decide +kernel⟩
  |bag r=>exact αj d.2.2.2.1
  |txt=>exact αj d.2.2.2.2.1
 ·show I2d l3 _ (by rw[v];simp[aS,ofO,e,xy d.2.1,xy d.2.2.2.1]) t (by simp) λx X=>?_;let g:∃y,x=.str y/\(y="put" \/ y="take"):=by
   rcases v8.mp X with z|z
   ·show(_,z,.inl rfl)
   ·show(_,vx.mp z,.inr rfl)
  let(y,(E),g):=g;show I1b y E λL q=>?_;cases L with
  |cnt i=>exact absurd q d.2.1
  |cho r=>exact absurd q d.2.2.2.1
  |bag r=>exact⟨g,by rcases g with rfl|rfl <;> decide +kernel,by rcases g with rfl|rfl <;> decide +kernel⟩
  |txt=>exact αj d.2.2.2.2.2
def FZ(e:h[n]?=a8 (.lst xs))(H:xs≠[]){m1 m2:Me}(h1:m1 δ h=.ok (.ref n) h)(h2:m2 δ h=.ok (.int v) h):∃x∈xs,o_ m1 (βC m2<|mCB lM<|aA m1 aC) δ h=.ok x h:=by let(x,(E),m):=LG (i:=v) H;show I1b x m ?_;simp[h1,h2,zI e,(Ep (v:=v) (λz=>H<|List.length_eq_zero_iff.mp z) h)];simp[bC e,E]
variable{mx:Me}
def CP{c:Int}(M:Yh h=.ok ps h)(n:(ps.l:Int)=c)(y:ps≠[])(l:ps.l<=100)(w:∀H,t_ H->mx δ H=.ok (.int v) H):∃x∈ps,o_ (cK ms) (βC mx<|mC<|.int c) δ h=.ok x (h++[.lst ps]):=by
 let(x,(e),m):=LG (i:=v) y;rw[n]at e;show I1b x m ?_;let V:=Ep (v:=v) (λz=>y<|List.length_eq_zero_iff.mp z)<|h++[MO.lst ps];rw[n]at V;let u:cK ms δ h=.ok (.ref h.l) (h++[.lst ps]):=by rw[MW,M];show if_pos<|yw<|qF ⋯
 simp only[xJ,u,Rs.bind_ok,(w _<|Ext.app _ _),zH,V];simp[bC aE,e]
def TB(c)(r:Ev)(h):∃v,Y5 (aB xE (βC (mV 0)<|aB xE (aB B3 (e_ 2)<|aB Fb (e_ 10)<|e_ 40)<|e_ 1)<|aB Fb (e_ 10)<|e_ 40) (e_ 1) (b0 c::r) h=.ok (.int v) h:=by let p:Fb _ (.int 40) h=.ok (.int<|10 ^ 40) h:=MY (by decide);let m:B3 (.int 2) (.int<|10 ^ 40) h=.ok _ h:=Gr (.inl<|by decide);let q:dS (.int c) (.int<|2*10 ^ 40-1) h=.ok _ h:=Gs (by decide);show(c%(2*10 ^ 40-1)-10 ^ 40+1,?_);simp only[xJ,Os,zH,Bs,Rs.bind_ok,p,m,MZ,q,Bw]
def O6{t:Nm}(h1:w≠"settle")(h2:w≠"back"):AJ (.leaf w t v):=⟨rfl,λW T V z=>by exists z;show⟨h1,h2⟩⟩
def O7(w:WK E)(h:e∈E)(k:e.kd="count" \/ e.kd="choice" \/ e.kd="bag"):∃L,e.lf=a8 L/\kdL L=e.kd:=by
 have:=(w e h).2;cases z:lf0 e.kd with
 |none=>
  unfold lf0 at z;rcases k with q|q|q <;> rw[q]at z
  ·exists z
  ·rw[if_neg<|by decide +kernel]at z;exists z
  ·rw[if_neg<|by decide +kernel]at z;exists z
 |some x=>
  rw[z]at this;cases y:e.lf with
  |none=>rw[y]at this;exists this
  |some L=>rw[y]at this;show I1b L rfl<|(wu this).symm.trans<|FU z
def QW(G:Zs i E)(hi:i<=60)(c:Int)(tk:Zr la=a8 ((kdT E).map<|dX id))(k:∀X h',t_ h'->AkV E X->AJ X->Q (.tup<|akP X) h'):(KD [.int c,.ref la] h).W Q:=by
 let nd:=G.nd;let lE:=G.ln;let lK:(kdT E).length=E.l+1:=by simp[kdT]
 show W_fn ?_;unfold KC;rw[aD];simp;show BP c 6 ⋯ h _ λL e l x1 _ x lxs bx=>?_
 try simp
 rfl';rw[aD];let e1:((kdT E).map<|dX id).map (·.1)=((kdT E).map (·.1)).map pv:=by rw[w9,w9];rfl
 let lk:=DJ<|bF tk λo=>x1 _ o;rw[e1]at lk;let tb:Tb h la 100 (fnd<|kdT E):=⟨kdT E,tk,⋯,by unfold kdT;rw[wq,Vp,w9];show(λz=>?_,nd);let(e,he,q):=v7.mp z;show G.ro e he q,λ_=>rfl⟩;let my:∀t∈(kdT E).map (·.1),∃y:Str,fnd (kdT E) t=a8 (.str y)/\γH t=.str y/\((t=root/\y="map")\/∃e,fnd (tE E) t=a8 e/\e.kd=y):=λt ht=>OH nd G.ro ht;let r6:((kdT E).map (·.1)).length<=61:=by rw[vn];omega
 let tl:∀t∈((kdT E).map (·.1)).tail,∃e,fnd (tE E) t=a8 e:=λt ht=>by let ht:t∈(E.map λe=>(e.nm,PV.str e.kd)).map (·.1):=ht;let(y,hy,rfl):=v7.mp ht;let(e,he,rfl):=v7.mp hy;show(e,vU nd he)
 let nk:((kdT E).map (·.1))≠[]:=by simp[kdT]
 generalize (kdT E).map (·.1)=ks at lk my r6 tl nk;simp[lk];let x2:Ext l (l++[MO.lst<|ks.map pv]):=m_ _;let gn:(l++[MO.lst<|ks.map pv])[l.length]?=a8 (.lst<|ks.map pv):=aE;generalize l.l=ln at gn;generalize l++[MO.lst<|ks.map pv]=h2 at x2 gn;rfl';let x:=x2 _ _ x;let cz:=x1.trans x2;let ix:∀(j:Nat)(hj:j<6),atI (γl 0) (j:Int)=b0 (L[j]'⋯):=λj hj=>FH ⋯;let l:atI (γl 0) 0=b0 (L[0]'⋯):=ix 0 ⋯;let j7:atI (γl 0) 1=b0 (L[1]'⋯):=ix 1 ⋯;let jv:atI (γl 0) 2=b0 (L[2]'⋯):=ix 2 ⋯;let o4:atI (γl 0) 3=b0 (L[3]'⋯):=ix 3 ⋯;let n9:atI (γl 0) 4=b0 (L[4]'⋯):=ix 4 ⋯;generalize L[0]'⋯=a0 at l;generalize L[1]'⋯=a1 at j7;generalize L[2]'⋯=a2 at jv;generalize L[3]'⋯=a3 at o4;generalize L[4]'⋯=a4 at n9;clear ix;rw[aD];let(t0,(pw),et):=(FZ (v:=a1) (m1:=mV 3) (m2:=o_ (mV 2)<|e_ 1) (δ:=[b0 c,a_ la,a_ e,a_ ln,a9,a9,a9,a9]) gn (d0 nk) (by simp)<|by simp[bC x,j7]);let(t,(ht),z0):=v7.mp pw;subst z0;rw[qW,et,iX];simp only[List.set];rfl';rw[aD];let(y,(k1),k2,k3):=my t ht;let(v,hv):=TB c [a_ la,a_ e,a_ ln,a8<|pv t,a9,a9,a9] h2;rw[qW,hv,iX];simp only[List.set];rfl';rw[aD];let(o,(ew),x3,wd):=LH [b0 c,a_ la,a_ e,a_ ln,a8<|pv t,b0 v,a9,a9] h2;rw[qW,ew,iX];simp only[List.set];let x:=x3 _ _ x;let gn:=x3 _ _ gn;let gu:=cz.trans x3;let nv:=tb.ext gu;let jx:=nv.at' k1;generalize h2.l=lw at wd;clear ew hv et lk;rfl';rw[aD];by_cases c7:a0%8=7
 ·show FY (h':=o) (by simp(disch:=omega) [bC x,l,c7]) (by simp;show k .settle o gu trivial ⟨rfl,λ_ _ _ z=>by exists z⟩)
 show B' (h':=o) (by simp(disch:=omega) [bC x,l,c7])<|now ?_;rw[aD];by_cases cl:3<a0%8/\(y="count" \/ y="choice" \/ y="bag")
 ·show FY (h':=o) (by simp(disch:=omega) [bC x,l,jx,LI wd,cl.1,cl.2]) ?_;let(l,ws,(w1),w2,w3,w4):=Tz wd cl.2;let(x,(hx),ex):=(FZ (v:=a2) (m1:=o_ (mV 6)<|aB vAt (mV 1)<|mV 4) (m2:=o_ (mV 2)<|e_ 2) (δ:=[b0 c,a_ la,a_ e,a_ ln,a8<|pv t,b0 v,a_ lw,a9]) w2 w3 (by simp[jx,w1])<|by simp[bC x,jv]);let(y,rfl,hy):=w4 x hx;rw[jT,qI,dC,ex,Rs.bind_ok];simp;rcases k3 with⟨_,z⟩|⟨e,fe,ek⟩
  ·rw[z]at cl;show absurd cl.2 (by decide +kernel)
  ·let(L,(eL),eK):=(O7 G.wk (cL fe).1 (by rw[ek];show cl.2));let((l),h2,qw):=hy L<|eK.trans ek;show k (.leaf y t v) _ gu (I2c e L fe eL l)<|O6 h2 qw
 show B' (h':=o) (by
  by_cases u:3<a0%8
  ·have:¬ (y="count" \/ y="choice" \/ y="bag"):=λz=>cl ⟨u,z⟩;simp(disch:=omega) [bC x,l,jx,LI wd,u,this]
  ·simp(disch:=omega) [bC x,l,u]) (now ?_)
 let X:lM [.ref ln] o=.ok (.int (ks.l:Int)) o:=by rw[zI gn,vn]
 let q:1<ks.l->∃u∈ks.tail,o_ (mV 3) (Y5 (e_ 1)<|aB dS (o_ (mV 2)<|e_ 1)<|aB xE (γG<|aA (mV 3) aC)<|e_ 1) [b0 c,a_ la,a_ e,a_ ln,a8<|pv t,b0 v,a_ lw,a9] o=.ok (pv u) o:=λhk=>by
  let h0:=Int.emod_nonneg a1 (show(ks.l:Int)-1≠0 by omega);let l:=Int.emod_lt_of_pos a1 (show(0:Int)<ks.l-1 by omega);generalize ej:a1%((ks.l:Int)-1)=j at h0 l;let hj:1+j.toNat<ks.l:=⋯
  show I1b (ks[1+j.toNat]) ?_ ?_
  ·have:ks.tail[j.toNat]?=a8 ks[1+j.toNat]:=by rw[List.getElem?_tail,zf ⋯];congr 2;omega
   show xw this
  ·let ea:atI (ks.map pv) (1+j)=a8 (pv ks[1+j.toNat]):=by have:=hQ (i:=1+j.toNat) (v:=pv ks[1+j.toNat]) (show(ks.map pv)[1+j.toNat]?=_ by rw[wm,zf hj];rfl);rw[show((1+j.toNat:Nat):Int)=1+j by omega]at this;show this
   let vm:dS (.int a1) (.int<|(ks.l:Int)-1) o=.ok (.int j) o:=by rw[<-ej];show Gs ⋯
   simp[X,bC x,j7,vm,bC gn,ea]
 rw[aD];by_cases c4:a0%8=4/\1<ks.l
 ·show FY (h':=o) (by simp(disch:=omega) [bC x,l,X,c4.1,show(1:Int)<ks.l by omega]) ?_;let(u,(hu),eu):=q c4.2;rw[jT,qI,dC,zH,Rs.bind_ok,dC,eu,Rs.bind_ok];simp;show k (.drop u) _ gu (tl u hu) ⟨rfl,λ_ _ _ z=>by exists z⟩
 show B' (h':=o) (by
  by_cases u:a0%8=4
  ·have:¬ (1:Int)<ks.l:=λz=>c4 ⟨u,⋯⟩;simp(disch:=omega) [bC x,l,X,u,this]
  ·simp(disch:=omega) [bC x,l,u]) (now ?_)
 rw[aD];by_cases c5:a0%8=5/\1<ks.l
 ·show FY (h':=o) (by simp(disch:=omega) [bC x,l,X,c5.1,show(1:Int)<ks.l by omega]) ?_;let(u,hu,eu):=q c5.2;let(z,(hz),ez):=(CP (h:=o) (ms:=aA (mC<|.str "a")<|aA (mC<|.str "b") aC) (ps:=[.str "a",.str "b"]) (c:=2) (v:=a2) (mx:=o_ (mV 2)<|e_ 2) (δ:=[b0 c,a_ la,a_ e,a_ ln,a8<|pv t,b0 v,a_ lw,a9]) (by simp) rfl (by simp) (by simp)<|λhz xz=>by simp[bC<|xz _ _ x,jv]);obtain⟨z',rfl⟩:∃z':Str,z=.str z':=by
   rcases v8.mp hz with q|q
   ·show(_,q)
   ·show(_,vx.mp q)
  rw[jT,qI,dC,zH,Rs.bind_ok,dC,eu,Rs.bind_ok,dC];let er:(aX<|aA (mC<|.str "")<|aA (e_ 0) aC) [b0 c,a_ la,a_ e,a_ ln,a8<|pv t,b0 v,a_ lw,a9] o=.ok (pv root) o:=by simp[pv]
  rw[er,Rs.bind_ok,dC,ez,Rs.bind_ok];simp;show k (.move u z') _ (gu.trans<|Ext.app _ _) (tl u hu) ⟨rfl,λ_ _ _ z=>by exists z⟩
 show B' (h':=o) (by
  by_cases u:a0%8=5
  ·have:¬ (1:Int)<ks.l:=λz=>c5 ⟨u,⋯⟩;simp(disch:=omega) [bC x,l,X,u,this]
  ·simp(disch:=omega) [bC x,l,u]) (now ?_)
 rw[aD];let(z,(hz),ez):=(CP (h:=o) (ms:=aA (mC<|.str "map")<|aA (mC<|.str "row")<|aA (mC<|.str "count")<|aA (mC<|.str "choice")<|aA (mC<|.str "bag")<|aA (mC<|.str "text") aC) (ps:=[.str "map",.str "row",.str "count",.str "choice",.str "bag",.str "text"]) (c:=6) (v:=a3) (mx:=o_ (mV 2)<|e_ 3) (δ:=[b0 c,a_ la,a_ e,a_ ln,a8<|pv t,b0 v,a_ lw,a9]) (by simp) rfl (by simp) (by simp)<|λhz xz=>by simp[bC<|xz _ _ x,o4]);obtain⟨kn,rfl,hkn⟩:∃kn:Str,z=.str kn/\Ea kn:=by simp only[v8,Ws,or_false]at hz;rcases hz with q|q|q|q|q|q <;> exact⟨_,q,by unfold Ea;simp⟩
 rw[qW,ez,iX];simp only[List.set];let x4:Ext o (o++[MO.lst [.str "map",.str "row",.str "count",.str "choice",.str "bag",.str "text"]]):=m_ _;generalize o++[MO.lst [PV.str "map",.str "row",.str "count",.str "choice",.str "bag",.str "text"]]=h4 at x4;let rf:=x4 _ _ x;let X:=(nv.ext x4).at' k1;let j':=gu.trans x4;rfl';rw[aD];by_cases cr:y="row"
 ·show FY (h':=h4) (by simp[X,cr]) ?_;simp;show k (.make kn t<|.tup [.tup [],.int 1]) _ j' ⟨hkn,.inr ⟨by rw[k2,cr],rfl⟩⟩ ⟨rfl,λ_ _ _ z=>by exists z⟩
 show B' (h':=h4) (by simp[X,cr])<|now ?_;rw[aD];by_cases cm:y="map"
 ·show FY (h':=h4) (by simp[X,cm]) ?_;let(y,(hy),ey):=(CP (h:=h4) (ms:=aA (mC<|.str "a")<|aA (mC<|.str "key")<|aA (mC<|.str "twelvesigns") aC) (ps:=[.str "a",.str "key",.str "twelvesigns"]) (c:=3) (v:=a4) (mx:=o_ (mV 2)<|e_ 4) (δ:=[b0 c,a_ la,a_ e,a_ ln,a8<|pv t,b0 v,a_ lw,a8<|.str kn]) (by simp) rfl (by simp) (by simp)<|λhz xz=>by simp[bC<|xz _ _ rf,n9]);obtain⟨y',rfl⟩:∃y':Str,y=.str y':=by simp only[v8,Ws,or_false]at hy;rcases hy with q|q|q <;> exact⟨_,q⟩
  rw[jT,qI,dC,zH,Rs.bind_ok,dC];simp only[Os,Ib,Bs,Rs.bind_ok,dC,ey];simp;show k (.make kn t<|.str y') _ (j'.trans<|Ext.app _ _) ⟨hkn,.inl ⟨by rw[k2,cm],y',rfl⟩⟩ ⟨rfl,λ_ _ _ z=>by exists z⟩
 show B' (h':=h4) (by simp[X,cm])<|now ?_;simp;show k (.make kn root<|.str "b") _ j' ⟨hkn,.inl ⟨by unfold aY;rw[if_pos rfl],_,rfl⟩⟩ ⟨rfl,λ_ _ _ z=>by exists z⟩
def AO(h):jX [] h=.ok (.tup [.ref h.length,.ref<|h.l+1]) (h++[.lst []]++[.lst []]):=by
 let w:(jX [] h).W λq H=>q=.tup [.ref h.length,.ref<|h.l+1]/\H=h++[.lst []]++[.lst []]:=by show W_fn ?_;unfold Cy;simp
 let(q,H,(e),z0,z1):=cU w;subst z0;subst z1;show e
variable{hs:S2 0}{lh:Nat}
def LJ(gh:h[lh]?=a8 (.lst<|hs.map PV.str))(hw:w∈hs)(em:Yh h=.ok [.str w,.ref lh] h)(k:∀A B,t_ B->DS B.l B A w [] .non->h.l<=A.d->h.l<=A.k->h.l<=A.s->h.l<=A.e->h.l<=A.r->h.l<=A.x->Q (.ref A.d) B):(eG "Desk" 2 iB ms δ h).W Q:=by
 show nS (ps:=[.str w,.ref lh]) (h1:=h) em rfl ?_;let x0:t_ (h++[MO.ins "Desk" []]):=m_ _;let g:(h++[MO.ins "Desk" []])[h.length]?=a8 (.ins "Desk" []):=aE;let l0:(h++[MO.ins "Desk" []]).length=h.l+1:=by simp
 generalize h++[MO.ins "Desk" []]=hA at x0 g l0;show W_fn ?_;unfold iA;rw[aD];let j:=x0 _ _ gh;let u9:aW (.str w) (.ref lh) hA=.ok (.bl false) hA:=by rw[uC j rfl (by rw[we];intro z hz;let(y,_,rfl):=v7.mp hz;rfl)];simp[hw]
 simp[u9];rfl';rw[aD];show W_setV g (by simp) (p:=.str w) (h1:=hA) (by simp) (βD 0) λh1 k1 G l1=>now ?_;let G:h1[h.length]?=a8 (.ins "Desk" [("hand",.str w)]):=G;let H:=k1 _ _ (λz=>by rw[z,g]at j;cases j) j;rw[aD];show W_setV G (by simp) (p:=.ref h1.l) (h1:=h1++[MO.lst<|hs.map PV.str]) (by simp[dJ H]) (m_ _) λh2 k2 v D=>now ?_;let v:h2[h.length]?=a8 (.ins "Desk" [("hand",.str w),("hands",.ref h1.l)]):=v;let D:h2.l=h1.l+1:=by rw[D];simp
 rw[aD];show W_setV v (by simp) (p:=.tup []) (h1:=h2) (by simp) (βD 0) λh3 k3 u l3=>now ?_;let u:h3[h.length]?=a8 (.ins "Desk" [("hand",.str w),("hands",.ref h1.l),("taken",.tup [])]):=u;rw[aD];show W_setV u (by simp) (p:=.tup []) (h1:=h3) (by simp) (βD 0) λg k4 t l4=>now ?_;let t:g[h.length]?=a8 (.ins "Desk" [("hand",.str w),("hands",.ref h1.l),("taken",.tup []),("thrown",.tup [])]):=t;rw[aD];show W_setV t (by simp) (p:=.ref g.l) (h1:=g++[MO.dK []]) (by simp) (m_ _) λH k5 q E=>now ?_;let q:H[h.length]?=a8 (.ins "Desk" [("hand",.str w),("hands",.ref h1.l),("taken",.tup []),("thrown",.tup []),("kept",.ref g.l)]):=q;let E:H.l=g.l+1:=by rw[E];simp
 let d5:=k5 g.l _ ⋯ aE;rw[aD];show W_setV q (by simp) (p:=.ref H.l) (h1:=H++[MO.dK []]) (by simp) (m_ _) λz k6 n q=>now ?_;let n:z[h.length]?=a8 (.ins "Desk" [("hand",.str w),("hands",.ref h1.l),("taken",.tup []),("thrown",.tup []),("kept",.ref g.l),("early",.ref H.l)]):=n;let q:z.l=H.l+1:=by rw[q];simp
 let e6:=k6 H.l _ ⋯ aE;rw[aD];show W_setV n (by simp) (p:=.ref z.l) (h1:=z++[MO.dK []]) (by simp) (m_ _) λh7 n m j=>now ?_;let m:h7[h.length]?=a8 (.ins "Desk" [("hand",.str w),("hands",.ref h1.l),("taken",.tup []),("thrown",.tup []),("kept",.ref g.l),("early",.ref H.l),("settles",.ref z.l)]):=m;let j:h7.l=z.l+1:=by rw[j];simp
 let s7:=n z.l _ ⋯ aE;rw[aD];show W_setV m (by simp) (p:=.int 0) (h1:=h7) (by simp) (βD 0) λy k8 l l8=>now ?_;let l:y[h.length]?=a8 (.ins "Desk" [("hand",.str w),("hands",.ref h1.l),("taken",.tup []),("thrown",.tup []),("kept",.ref g.l),("early",.ref H.l),("settles",.ref z.l),("floor",.int 0)]):=l;rw[aD];show W_setV l (by simp) (p:=.tup [.ref y.length,.ref<|y.l+1]) (h1:=y++[.lst []]++[.lst []]) (by simp[AO]) ((m_ _).trans<|Ext.app _ _) λh9 u f l9=>now ?_;let f:h9[h.length]?=a8 (.ins "Desk" [("hand",.str w),("hands",.ref h1.l),("taken",.tup []),("thrown",.tup []),("kept",.ref g.l),("early",.ref H.l),("settles",.ref z.l),("floor",.int 0),("ground",.tup [.ref y.length,.ref<|y.l+1])]):=f;let l9:h9.l=y.l+2:=by rw[l9];simp
 show W_setV f (by simp) (p:=.non) (h1:=h9) (by simp) (βD 0) λv kB B lB=>?_;let q1:h1.l=h.l+1:=l1.trans l0;let q4:g.l=h.l+2:=by rw[l4,l3,D,q1]
 let q5:H.l=h.l+3:=by rw[E,q4]
 let q6:z.l=h.l+4:=by rw[q,q5]
 let q8:y.l=h.l+5:=by rw[l8,j,q6]
 clear l0 l1 D l3 l4 E q j l8 l9 lB;let xB:t_ v:=λi o e=>by let G:=(Y7 0).1;show(λi o G e=>kB _ _ G<|u _ _ G<|(Ext.app (y++[MO.lst []]) [MO.lst []]) _ _<|Ext.app y [MO.lst []] _ _<|k8 _ _ G<|n _ _ G<|Ext.app z [MO.dK []] _ _<|k6 _ _ G<|Ext.app H [MO.dK []] _ _<|k5 _ _ G<|Ext.app g [MO.dK []] _ _ e) i o ⋯ (k4 _ _ ⋯ (k3 _ _ ⋯ (k2 _ _ ⋯ ((Ext.app h1 [MO.lst<|hs.map PV.str]) _ _<|k1 _ _ ⋯ (x0 _ _ e)))))
 let t:∀(i:Nat) o,i≠h.l->h9[i]?=a8 o->v[i]?=a8 o:=λi o G e=>kB _ _ G e;let D:v[g.length]?=a8 (.dK []):=t _ _ ⋯ (u _ _ ⋯ ((Ext.app (y++[MO.lst []]) [MO.lst []]) _ _<|Ext.app y [MO.lst []] _ _<|k8 _ _ ⋯ (n _ _ ⋯ (Ext.app z [MO.dK []] _ _<|k6 _ _ ⋯ (Ext.app H [MO.dK []] _ _ d5)))));let E:v[H.length]?=a8 (.dK []):=t _ _ ⋯ (u _ _ ⋯ ((Ext.app (y++[MO.lst []]) [MO.lst []]) _ _<|Ext.app y [MO.lst []] _ _<|k8 _ _ ⋯ (n _ _ ⋯ (Ext.app z [MO.dK []] _ _ e6))));let s8:v[z.length]?=a8 (.dK []):=t _ _ ⋯ (u _ _ ⋯ ((Ext.app (y++[MO.lst []]) [MO.lst []]) _ _<|Ext.app y [MO.lst []] _ _<|k8 _ _ ⋯ s7));let lt:∀{i:Nat}{o:MO},v[i]?=a8 o->i<v.l:=λe=>(Y7 0).1;show k ⟨h.length,h1.length,g.length,H.length,z.length,y.length,y.l+1⟩ v xB ⟨B,jV D,E,(I1b [] s8<|w6 _),⟨t _ _ (show y.l≠h.l by omega) (u y.l _ ⋯ ((Ext.app (y++[MO.lst []]) [MO.lst []]) _ _ aE)),t _ _ (show y.l+1≠h.l by omega) (u (y.l+1) (.lst []) ⋯ (by simp))⟩,⟨lt B,lt D,lt E,lt s8⟩,⟨show g.l≠H.l by omega,show g.l≠z.l by omega,show H.l≠z.l by omega⟩⟩ (vk _) (show h.l<=g.l by omega) (show h.l<=z.l by omega) (show h.l<=H.l by omega) (show h.l<=y.l by omega) (show h.l<=y.l+1 by omega)
def QX{j:Nat}{f:Fn}{v:PV}{z:PX}{E:FE}(m:Yh h=.ok xs h1)(l:xs.l=n)(e:f (.ref h1.l::xs) (h1++[.ins cn []])=.exc z h2)(k:E.nx ((βN<|a8 v).set j a9) h2):(εH j v δ h).W E:=by unfold uB;rw[m];dsimp only;rw[if_pos l,e];rw[Sr];show k
abbrev names7:S2 0:=["ann","bob","cyd","dan","eve","fay","gus"]
def G1(g:h[lh]?=a8 (.lst<|hs.map PV.str))(l:hs.l<=6)(k:∀r,t_ r->Q (.bl true) r):(qM [.ref lh] h).W Q:=by
 let c:∀{y:PH}{n:Nat},y[n]?=a8 (.lst<|hs.map PV.str)->∀z:Str,aW (.str z) (.ref n) y=.ok (.bl<|!decide (z∈hs)) y:=λ{y n} e z=>by rw[uC e rfl<|(λxs=>we.mpr λy hy=>by let(z,_,rfl):=v7.mp hy;rfl) hs];simp
 show W_fn ?_;unfold vQ;rw[aD,qW];let x1:t_ (h++[MO.lst (names7.map PV.str)]):=m_ _;let n:=cP (js:=[a9,a8 0]) (tg:=gN 0) (tst:=aN (aB aW (mV 0) (mV 1))) (elt:=mV 0) (m:=cK (aA (mC (.str "ann")) (aA (mC (.str "bob")) (aA (mC (.str "cyd")) (aA (mC (.str "dan")) (aA (mC (.str "eve")) (aA (mC (.str "fay")) (aA (mC (.str "gus")) aC)))))))) (δ:=[a_ lh,a9,a9,a9]) (h:=h) (h1:=h++[MO.lst (names7.map PV.str)]) (n:=h.l) (ys:=names7) (emb:=PV.str) (λz=>if(!decide (z∈hs))=true then a8 (.str z) else a9) (by simp[names7]) aE (by decide) (λz y=>⟨[a8 (.str z),a_ lh],by simp[eE],λh3 x3=>by
  have:=c ((x1.trans x3) _ _ g) z
  by_cases c:z∈hs <;> simp[this,c]⟩)
 rw[iQ (λz:Str=>!decide (z∈hs)) PV.str]at n;obtain⟨z,r,ez,nz⟩:∃z r,names7.filter (λz=>!decide (z∈hs))=z::r/\z∉hs:=by
  cases e:names7.filter (λz=>!decide (z∈hs)) with
  |nil=>
   exfalso;have:∀z∈names7,z∈hs:=λz y=>by have:=List.filter_eq_nil_iff.mp e z y;simpa using this
   have:=List.Nodup.length_le_of_subset (show names7.Nodup by decide +kernel) this;have:names7.l=7:=rfl;omega
  |cons z r=>exact I2b z r rfl (by have:=(VR.mp (e▸vo:z∈names7.filter _)).2;simpa using this)
 rw[ez]at n;let e:(h++[MO.lst<|names7.map PV.str]++[MO.lst<|(z::r).map PV.str])[(h++[MO.lst<|names7.map PV.str]).length]?=a8 (.lst<|(z::r).map PV.str):=aE;let y:t_ (h++[MO.lst<|names7.map PV.str]++[MO.lst<|(z::r).map PV.str]):=x1.trans<|Ext.app _ _;generalize (h++[MO.lst<|names7.map PV.str]).length=n2 at n e;generalize h++[MO.lst<|names7.map PV.str]++[MO.lst<|(z::r).map PV.str]=h2 at n e y;let a0:atI ((z::r).map PV.str) 0=a8 (.str z):=hQ (i:=0) rfl;let e1:o_ (bK [a9,a8 0] (bB<|cK<|aA (mC<|.str "ann")<|aA (mC<|.str "bob")<|aA (mC<|.str "cyd")<|aA (mC<|.str "dan")<|aA (mC<|.str "eve")<|aA (mC<|.str "fay")<|aA (mC<|.str "gus") aC) (gN 0) (aN<|aB aW (mV 0)<|mV 1)<|mV 0) (e_ 0) [a_ lh,a9,a9,a9] h=.ok (.str z) h2:=by rw[xJ,n];simp only[Rs.bind_ok,zH];simp[bC e,a0,ofO]
 rw[show[PV.ref lh].map a8++Vj (4 - [PV.ref lh].length) a9=[a_ lh,a9,a9,a9] from rfl,e1,iX]
 rfl';rw[aD];simp;rfl';rw[aD];let g3:=y _ _ g;let em:(aA (mV 1)<|aA (β2<|aA (mV 0) aC) aC) [a_ lh,a8<|.str z,b0 0,a9] h2=.ok [.str z,.ref h2.length] (h2++[.lst<|hs.map PV.str]):=by simp[dJ g3]
 show QX (z:=⟨"NoHand",[]⟩) (h2:=h2++[.lst<|hs.map PV.str]++[.ins "Desk" []]) em rfl ?_ ?_
 ·let gC:(h2++[MO.lst<|hs.map PV.str]++[MO.ins "Desk" []])[h2.length]?=a8 (.lst<|hs.map PV.str):=ZN aE;let c:=c gC z;generalize h2++[MO.lst<|hs.map PV.str]++[MO.ins "Desk" []]=hX at c;unfold gD mFn fZ aF bE Af;simp[c,nz,aN]
 ·rfl';simp;show k _<|y.trans<|Ext.app _ _
variable{o':MO}
def DS.aside(D:r_ 0)(N:n≠A.d)(z:n≠A.k)(y:n≠A.e)(w:n≠A.s)(v:n≠A.r)(u:n≠A.x):DS B (P_ o') A own As fv:=⟨aI D.ob N,bF D.kp λo e=>aI e z,aI D.ea y,let ⟨R,a,b⟩:=D.se;(I1b R (aI a w) b),⟨aI D.gr.1 v,aI D.gr.2 u⟩,D.lo,D.ne⟩
def FV.ext(V:αd 0)(x:t_ h'):α6 As fv:=V.imp id λz0=>E6b z0 λl t m L z a e f=>I6b l t m L z a e<|f.keep x
def FV.aside(V:αd 0)(x:n<B)(N:∀c s,h[n]?≠a8 (.ins c s)):FV B (P_ o') own As fv:=V.imp id λz0=>E6b z0 λl t m L y a e f=>I6b l t m L y a e (f.desk (λi o H e=>aI e ⋯) λi c s _ e=>aI e λz=>by rw[<-z]at e;show N _ _ e)
structure LS(B:Nat)(h:PH)(A:DA)(own:Str)(As:k_ Ak)(fv:PV)(ld lk lh ls:Nat)(hs:k_ Str)(cs:k_ Int)(ds:k_ Dd)(E:k_ En):Prop where
 D:DS B h A own As fv
 V:FV B h own As fv
 v:Val own 0 [] As
 dn:h[ld]?=some (.lst (ds.map dP))
 kd:aV h lk=some ((kdT E).map (dX id))
 hn:h[lh]?=some (.lst (hs.map PV.str))
 sc:h[ls]?=some (.lst (cs.map PV.int))
 bl:B<=h.l
 lo:ld<B/\lk<B
 ne:lk≠A.d/\lk≠A.k/\lk≠A.e/\lk≠A.s
 nl:ld≠lh/\ld≠ls/\ld≠A.r/\ld≠A.x
variable{cs:YV 0}{ld:Nat}{fb:PV}{jf:k_ Ak}
section
variable{lk ls:Nat}{ds ds':k_ Dd}{E':k_ En}
def LS.ext(L:Am ds E)(x:t_ h'):γJ As fv ld lk lh ls hs cs ds E:=⟨L.D.ext x,L.V.ext x,L.v,YY L.dn,bF L.kd λo=>x _ o,YY L.hn,YY L.sc,vz L.bl x.len,L.lo,L.ne,L.nl⟩
def LS.df(L:Am ds E)(d:YR h')(D:XQ jf fb)(V:α6 jf fb)(v:ZT 0 [] jf):γJ jf fb ld lk lh ls hs cs ds E:=⟨D,V,v,d.ls _ _ L.dn,bF L.kd λo e=>d.lo _ o L.lo.2 L.ne.1 L.ne.2.1 L.ne.2.2.2 e,d.ls _ _ L.hn,d.ls _ _ L.sc,vz L.bl d.ln,L.lo,L.ne,L.nl⟩
def LS.setD(L:Am ds E):LS B (h.set ld<|.lst<|ds'.map dP) A own As fv ld lk lh ls hs cs ds' E:=by
 let n:∀c f,h[ld]?≠a8 (.ins c f):=λc f z=>by rw[L.dn]at z;cases z
 let(R,(s),_):=L.D.se;show(L.D.aside (λz=>n _ _ (by rw[z];show L.D.ob)) (bM L.D.kp L.dn rfl) (λz=>by have:=L.D.ea;rw[<-z,L.dn]at this;cases this) (λz=>by rw[<-z,L.dn]at s;cases s) L.nl.2.2.1 L.nl.2.2.2,L.V.aside L.lo.1 n,L.v,aR L.dn,bF L.kd λo e=>aI e<|bM L.kd L.dn rfl,aI L.hn L.nl.1,aI L.sc L.nl.2.1,by rw[wo];show L.bl,L.lo,L.ne,L.nl)
def LS.setK(L:Am ds E):LS B (h.set lk<|.dD<|(kdT E').map<|dX id) A own As fv ld lk lh ls hs cs ds E':=by
 let(o,(H),t,_):=iH L.kd;let n:∀{i:Nat}{xs:E_ 0},h[i]?=a8 (.lst xs)->lk≠i:=λe z=>by rw[<-z,H]at e;exists e;exists t
 show(L.D.aside L.ne.1 L.ne.2.1 L.ne.2.2.1 L.ne.2.2.2 (n L.D.gr.1)<|n L.D.gr.2,L.V.aside L.lo.2 (λc f z=>by rw[H]at z;exists z;exists t),L.v,aI L.dn<|n L.dn,eY<|aR H,aI L.hn<|n L.hn,aI L.sc<|n L.sc,by rw[wo];show L.bl,L.lo,L.ne,L.nl)
def TC:∀(n)(x:PV),x.pl n=true->x.pl (n+1)=true:=by
 intro n
 induction n with
 |zero=>intro x h;cases x <;> first|rfl|cases h
 |succ n i=>
  intro x h;cases x with
  |tup s=>exact we.mpr λy H=>i y (we.mp (show s.all _=true from h) y H)
  |non=>rfl
  |int=>rfl
  |str=>rfl
  |_=>cases h
def LK{n:Nat}{x:PV}(h:x.pl n=true):∀m,x.pl (n+m)=true
 |0=>h
 |m+1=>TC _ _ (LK h m)
def OI(p:AJ X):(dP<|mkD own i X).pl (n+40)=true:=by
 let H:(sv<|aZ own i).pl (n+39)=true:=we.mpr λy Y=>by let(z,_,rfl):=v7.mp Y;show E5
 let x:(PV.tup<|akP X).pl (n+39)=true:=by
  have:=LK (show(PV.tup _).pl 38=true from p.1) (n+1)
  rwa[show 38+(n+1)=n+39 by omega]at this
 show[pv _,sv<|aZ own i,PV.tup<|akP X].all (PV.pl _)=true
 simp[E5,H,x]
def LL:fP [PV.tup [.str own,.int<|i]] a9 (a8<|i)=(YH i).map pv:=by
 by_cases c:i=0
 ·subst c;rfl
 ·obtain⟨j,rfl⟩:∃j,i=j+1:=⟨i-1,⋯⟩;let e:HT.sIx 1 1 (a8 ((j+1:Nat):Int))=1:=by simp[HT.sIx];omega
  change(([PV.tup [.str own,.int ((j+1:Nat):Int)]]).drop<|HT.sIx 1 0 a9).take (HT.sIx 1 1 (a8 ((j+1:Nat):Int))-HT.sIx 1 0 a9)=_
  rw[e];rfl
def Er(D:r_ 0):kF [.ref A.d] h=.ok (sv<|aZ own As.l) h:=by
 let w:(kF [.ref A.d] h).W λq H=>q=sv (YH As.l)/\H=h:=by show W_fn ?_;unfold pH;simp[D.ft]
 let(q,H,(e),z0,z1):=cU w;subst z0;subst z1;show e
end
variable{cz e8 eh x0 x9:l7 PV}
section
variable{lk ls:Nat}{ds ds':k_ Dd}{E':k_ En}
def AQ(g:h[n]?=a8 (.lst xs)):onL iW (.ref n) [] h=.ok .non (P_<|.lst []):=by simp[onL,cD,g,iW]
def LM(n:∀k p z,X≠.make k p z):kdT (rH E nm X)=kdT E:=by
 let u:∀{x:Nm}{g:En->En},(∀e,(g e).nm=e.nm)->(∀e,(g e).kd=e.kd)->kdT (Zz g)=kdT E:=λ{x g} N G=>by
  unfold kdT upE;rw[w9];congr 1;apply y4;intro e _
  change((if e.nm=x then g e else e).nm,PV.str (if e.nm=x then g e else e).kd)=(e.nm,PV.str e.kd)
  split
  ·rw[N,G]
  ·rfl
 cases X with
 |settle=>rfl
 |make k p z=>exact absurd rfl<|n k p z
 |drop t=>exact u (λ_=>rfl) λ_=>rfl
 |move t z=>exact u (λ_=>rfl) λ_=>rfl
 |leaf w t v=>exact u (λ_=>rfl) λ_=>rfl
def O8(L:Am (y_ As) (X1 [] As))(la:As.l<31)(c:Int)(k:∀h' X v y9 U T,γJ (As++[X]) v ld lk lh ls hs cs (y_<|As++[X]) (X1 []<|As++[X])->G.nx [x0,x1,a_ lh,a8<|.str own,x4,a_ A.d,a_ ld,a_ lk,b0 c,y9,U,T,cz] h'):
  (xU [x0,x1,a_ lh,a8<|.str own,x4,a_ A.d,a_ ld,a_ lk,b0 c,x9,e8,eh,cz] h).W G:=by
 let Q:=GE.run (own:=own) GE.nil L.v;rw[VC]at Q;let ll:(y_ As).length=As.l:=nU;unfold xU;rw[aD];simp;show QW Q ⋯ c L.kd λX F Y Z P=>?_
 try simp
 let n:=L.ext Y;rfl';rw[aD];simp[zI n.dn,ll];rfl';rw[aD];simp[mM,mMx "do" n.D.ob rfl,OA]
 show Tx n.D n.V n.bl n.v ⋯ Z P λh2 f d2 D2 V2=>?_;let i:ZT 0 [] (As++[X]):=L.v.snoc Z P;let g:=n.df d2 D2 V2 i;let N:y_ (As++[X])=y_ As++[εg X]:=by rw[CO,VC]
 let S:X1 [] (As++[X])=rH (X1 [] As) (Ya As.l) X:=by rw[xX,VC]
 try simp
 rfl';rw[aD];let ed:PV.tup [.tup [.str own,.int<|(As.l:Int)+1],.tup<|fP [PV.tup [.str own,.int (As.l:Int)]] a9<|a8 (As.l:Int),.tup<|akP X]=dP (εg X):=by rw[LL];rfl
 let a:=mS (p:=dP<|mkD own As.l X) g.dn (by rw[vn];omega);rw[show(y_ As).map dP++[dP<|mkD own As.l X]=(y_<|As++[X]).map dP by rw[N];simp]at a;let O:((As.l:Int)+1-1)=As.l:=⋯
 simp[iL g.dn,O,ed];rw[a];let s:=g.setD (ds':=y_<|As++[X]);generalize h2.set ld (.lst<|(y_<|As++[X]).map dP)=h3 at s;clear a;rw[iX];rfl';rw[aD];let b:atI ((y_<|As++[X]).map dP) (-1)=a8 (dP<|mkD own As.l X):=by rw[N,yo];show JL
 let u:=Er s.D;let eS:sv (YH (As++[X]).length)=.tup [.tup [.str own,.int<|(As.l:Int)+1]]:=by
  rw[ye]
  change sv (YH<|As.l+1)=_
  unfold aZ;rw[if_neg ⋯];rfl
 rw[eS]at u;let t2:hZ (.tup [.tup [.str own,.int<|(As.l:Int)+1]]) (.tup [.tup [.str own,.int<|(As.l:Int)+1]]) h3=.ok (.bl false) h3:=Kt rfl;show B' (h':=h3) (by simp[bC s.dn,b,(tY (h:=h3) (x:=dP<|mkD own As.l X) (y:=dP<|mkD own As.l X) rfl<|gJ<|OI P),mM,mMx "seen" s.D.ob rfl,uN,u,t2])<|now ?_;rw[aD];let i0:∃(w:Str)(r:E_ 0),akP X=.str w::r/\(w="make" ↔ ∃k p z,X=.make k p z):=by
  cases X with
  |settle=>exact⟨_,_,rfl,λz=>YJ (by decide +kernel),λz4=>E3a z4 λ_ _ _ z=>by exists z⟩
  |make k p z=>exact⟨_,_,rfl,λ_=>(I3a k p z rfl),λ_=>rfl⟩
  |drop t=>exact⟨_,_,rfl,λz=>YJ (by decide +kernel),λz3=>E3a z3 λ_ _ _ z=>by exists z⟩
  |move t z=>exact⟨_,_,rfl,λz=>YJ (by decide +kernel),λz2=>E3a z2 λ_ _ _ z=>by exists z⟩
  |leaf w t v=>show E2c Z λe L _ _ hw=>?_;show(_,_,rfl,λz=>absurd (.inl z) (OF hw).1,λz1=>E3a z1 λ_ _ _ z=>by exists z)
 let(w,r,(ew),U):=i0
 -- the R of the turn
 let R:∀H,LS B H A own (As++[X]) f ld lk lh ls hs cs (y_<|As++[X]) (X1 []<|As++[X])->Lt (aF (dY<|hV isL (onL iW)<|aH "held" 0 dM (mV 5) aC)<|aF (dY<|hV isL (onL iW)<|aB vAt (aH "now" 0 vR (mV 5) aC)<|e_ 0)<|dY<|mMt isL (onL eW) (o_ (aH "base" 0 gE (mV 5) aC)<|e_ 0)<|aA (mV 10) aC) G [x0,x1,a_ lh,a8<|.str own,x4,a_ A.d,a_ ld,a_ lk,b0 c,a8<|.tup<|akP X,b0<|(As.l:Int)+1,a8<|dP<|mkD own As.l X,cz] H:=by intro H l;rfl';rw[aD];simp[mM,mMx "held" l.D.ob rfl,dM];show AN l.D i.pl (by simp;omega) λl5 h5 x5 b5 M=>?_;simp[iL M,AQ M];let m:=l.ext<|x5.setN (o:=.lst []) b5;generalize h5.set l5 (.lst [])=h6 at m;rfl';rw[aD];simp[mM,mMx "now" m.D.ob rfl,vR];show Ly m.D m.V m.bl i (by simp;omega) λl7 r y h7 h8 d7 D7 V7 x8 b8 rr ny gy=>?_;let L7:=m.df d7 D7 V7 i;let(vs,(J),_):=rr;simp[iL J,AQ J];let j:=L7.ext<|x8.setN (o:=.lst []) b8;generalize h8.set r (.lst [])=h9 at j;rfl';simp[mM,mMx "base" j.D.ob rfl,gE];show Em j.D λr2 y2 hA xA bA I ny2 gy2=>?_;simp[iL I,mS (p:=.int<|(As.l:Int)+1) I<|by simp];show k _ X _ _ _ _<|j.ext<|xA.setN (o:=.lst [.int<|(As.l:Int)+1]) bA
 by_cases C:w="make"
 ·let(K,p,z,(z0)):=U.mp C;subst z0;show FY (h':=h3) (by simp[akP]) ?_;let lE:=Q.ln;let hp:gW (.ref lk) (.tup [.str own,.int<|(As.l:Int)+1]) (.str K) h3=a8 (h3.set lk<|.dD<|(kdT<|dF own 0 []<|As++[.make K p z]).map<|dX id):=by
   have:=jW (z:=.str K) s.kd (xs:=[.str own,.int<|(As.l:Int)+1]) rfl (by rw[vn];simp[kdT];omega);rw[show PV.tup [.str own,.int<|(As.l:Int)+1]=pv (Ya As.l) from rfl,show PV.str K=id (PV.str K) from rfl,AD]at this
   let nn:fnd (kdT<|dF own 0 [] As) (Ya As.l)=a9:=by
    let F:=Q.new;cases q:fnd (kdT<|dF own 0 [] As) (Ya As.l) with
    |none=>rfl
    |some u=>
     obtain⟨_,_,_,y|⟨e,y,_⟩⟩:=OH Q.nd Q.ro (xV.mp (show(fnd (kdT<|dF own 0 [] As)<|nmI own As.l).isSome=true by rw[q];rfl))
     ·show absurd y.1 Lw
     ·rw[F]at y;exists y
   rw[qB nn]at this;rw[S];let ek:kdT (rH (X1 [] As) (Ya As.l)<|.make K p z)=kdT (X1 [] As)++[(Ya As.length,.str K)]:=by simp[kdT,rH]
   rw[ek];show this
  simp[akP];show A0 hp<|R _<|s.setK (E':=X1 []<|As++[.make K p z])
 ·show B' (h':=h3) (by rw[ew];simp[C]) ?_;let l:LS B h3 A own (As++[X]) f ld lk lh ls hs cs (y_<|As++[X]) (X1 []<|As++[X]):=by show(s.D,s.V,s.v,s.dn,?_,s.hn,s.sc,s.bl,s.lo,s.ne,s.nl);rw[S,LM λk p z q=>C<|U.mpr<|I3a k p z q];show s.kd
  show R h3 l
end
def AR{f g:PV->PV->Bool}(i:∀x y,f x y=true->g x y=true):∀{xs ys:E_ 0},δW ys=true->cY g xs ys=true
 |[],[],_=>rfl
 |x::xs,y::ys,h=>by unfold cY at h⊢;rw[wy]at h⊢;show(i x y h.1,AR i h.2)
 |[],_::_,h=>by exists h
 |_::_,[],h=>by exists h
def O9:∀(n:Nat)(x y:PV),Zl n x y=true->Zl (n+1) x y=true:=by
 intro n
 induction n with
 |zero=>intro x y e;cases x <;> cases y <;> first|exact e|cases e
 |succ n ih=>
  intro x y e;cases x with
  |tup xs=>
   cases y with
   |tup ys=>exact AR ih (show cY (Zl n) xs ys=true from e)
   |_=>cases e
  |ref a=>
   cases y with
   |ref b=>
    let e:lkL (Zl n) (Ym a) (Ym b)=true:=e
    change lkL (Zl<|n+1) (Ym a) (Ym b)=true
    cases e1:Ym a with
    |none=>rw[e1]at e;cases e
    |some xs=>
     rw[e1]at e;cases e2:Ym b with
     |none=>rw[e2]at e;cases e
     |some ys=>rw[e2]at e;show AR ih e
   |_=>cases e
  |_=>cases y <;> first|exact e|cases e
def Es{h:PH}{n:Nat}{x y:PV}(e:Zl n x y=true):∀m,Zl (n+m) x y=true
 |0=>e
 |m+1=>O9 _ _ _ (Es e m)
def qC.ls{v:PV}(k:∀(i:Nat) xs,h[i]?=a8 (.lst xs)->h'[i]?=a8 (.lst xs))(c:qC n h o v):qC n h' o v:=by
 cases o with
 |none=>exact c
 |some L=>
  cases L with
  |cnt i=>exact c
  |cho r=>let⟨s,C,z,y⟩:=c;show(s,C,z,q7 y)
  |bag r=>let⟨s,C,z,y⟩:=c;show(s,C,z,q7 y)
  |txt=>let⟨s,t,C,z,y,x,w⟩:=c;show I2e s t C z y (q7 x)<|k _ _ w
def kH.ls(k:∀(i:Nat) xs,h[i]?=a8 (.lst xs)->h'[i]?=a8 (.lst xs))(c:kH h r E):kH h' r E:=by let(s,(g),l,o):=c;show I1c s (q7 g) l λi v H=>?_;let(e,w,(a),b,c):=o i v H;show I2c e w a b<|c.ls k
def IP{z:Nat}(p:PlE E)(c:kH h r E)(C:kH h s E)(g:h[y]?=a8 (.lst []))(G:h[z]?=a8 (.lst [])):Zl 190 (.tup [.ref r,.ref y]) (.tup [.ref s,.ref z])=true:=by
 let x:Zl 189 _ _=true:=cT g G rfl
 change cY (Zl 189) [.ref r,.ref y] [.ref s,.ref z]=true
 unfold cY cY cY;rw[Es (II p c C) 181,x];rfl
def TR.tup{E:k_ En}{n:Nat}{t:Nm}{v:PV}{h:PH}(c:TR E (n+1) t v h):∃x,v=.tup x:=by
 unfold TR at c;cases e:lfE E t with
 |some L=>rw[e]at c;let(w,a,_):=c;show(_,a)
 |none=>rw[e]at c;let(s,g,a,_):=c;show(_,a)
variable{G0:FE}
section
variable{lk ls:Nat}{ds ds':k_ Dd}{E':k_ En}
def O'(D:r_ 0):fH [.ref A.d] h=.ok (.ref h.l) (h++[.lst []]):=by
 let w:(fH [.ref A.d] h).W λq h'=>q=.ref h.l/\h'=h++[.lst []]:=by show W_fn ?_;unfold jN;let e:=Ct D.ea;simp[D.fe,e]
 let(q,h',(e),z0,z1):=cU w;subst z0;subst z1;show e
def LN(D:r_ 0):iP [.ref A.d] h=.ok (.int 0) h:=by
 let w:(iP [.ref A.d] h).W λq H=>q=.int 0/\H=h:=by show W_fn ?_;unfold nR;simp[D.ff]
 let(q,H,(e),z0,z1):=cU w;subst z0;subst z1;show e
def LS.of(L:Am ds E)(d:YR h')(D:XQ As fb)(V:α6 As fb):γJ As fb ld lk lh ls hs cs ds E:=L.df d D V L.v
abbrev TF:Ms:=
 (aF (aT 12 (bD 2 Az (aA (oU jX) (aA (mV 6) aC))))
 (aF (bE (oC (aN (aB rT (aH "now" 0 vR (mV 5) aC) (mV 12))) (oC (aN (aB rT (aH "told" 0 sX (mV 5) aC) (bD 1 CC (aA (mV 12) aC)))) (oC (aN (aB rT (aH "held" 0 dM (mV 5) aC) (mV 6))) (aN (ζz (aH "waiting" 0 sW (mV 5) aC) (cK aC))))))
  bN
  bP)
 (aF (bE (oC (aN (aB rT (aH "base" 0 gE (mV 5) aC) (oU jX))) (oC (aN (ζz (aH "bound" 0 pZ (mV 5) aC) (e_ 0))) (aN (mCB B5 (aA (aH "bound" 0 pZ (mV 5) aC) (aA (mC (.ty "bool")) aC))))))
  bN
  bP)
 (aQ (Bu (bD 1 qM (aA (mV 2) aC)) (Ig (ζz (mV 6) (cK aC)) (Yw (aH "seen" 0 uN (mV 5) aC) (aX aC))))))))
def QY(L:Am (y_ As) (X1 [] As))(la:As.l<=31)(lhs:hs.l<=6){x8:l7 PV}(k:∀h',G0.rt (.bl true) h'):
  (TF [x0,x1,a_ lh,a8<|.str own,x4,a_ A.d,a_ ld,a_ lk,x8,x9,e8,eh,cz] h).W G0:=by
 let G:=GE.run (own:=own) GE.nil L.v;rw[VC]at G;let ll:(y_ As).length=As.l:=nU;unfold TF;rw[aD];let xe:t_ (h++[MO.lst []]++[MO.lst []]):=(m_ _).trans<|Ext.app _ _;let ga:(h++[MO.lst []]++[MO.lst []])[h.length]?=a8 (.lst []):=ZN aE;let gb:(h++[MO.lst []]++[MO.lst []])[h.length+1]?=a8 (.lst []):=by have:=aE (h:=h++[MO.lst []]) (o:=MO.lst []);simpa using this
 simp[AO];let hh:h++[MO.lst [],MO.lst []]=h++[MO.lst []]++[MO.lst []]:=by simp
 rw[hh];let L0:=L.ext xe;generalize h++[MO.lst []]++[MO.lst []]=h0 at xe ga gb L0;show Hd L.v ⋯ ga gb L0.dn λr0 y0 h1 qd b1 m5 ny0 mz=>?_
 try simp
 let L1:=L0.ext qd;rfl';rw[aD]
 -- now
 let(_,h3,e3,l,r,y,h2,rfl,d2,D2,V2,x3,b3,rr,ny,gy):=cU<|Ly L1.D L1.V L1.bl L.v ⋯ (Q:=λu h'=>∃l r y h2,u=.tup [.ref r,.ref y]/\Df B A h1 h2/\DS B h2 A own As (.ref l)/\FV B h2 own As (.ref l)/\Ext h2 h'/\h2.l<=r/\kH h' r (X1 [] As)/\r≠y/\h'[y]?=a8 (.lst [])) λl r y h2 h' a b c d e f g i=>⟨l,r,y,h2,rfl,a,b,c,d,e,f,g,i⟩;let L3:=(L1.of d2 D2 V2).ext x3;let k3:∀(i:Nat) xs,h1[i]?=a8 (.lst xs)->h3[i]?=a8 (.lst xs):=λi xs e=>x3 _ _<|d2.ls i xs e;let t1:=tY (h:=h3) (x:=.tup [.ref r,.ref y]) (y:=.tup [.ref r0,.ref y0]) rfl<|IP G.pl rr (m5.ls k3) gy<|k3 _ _ mz
 -- told
 let(w,h4,e4,l4,d4,D4,V4,o6):=cU<|Lz L3.D L3.V L3.bl L.v ⋯ (Q:=λu h'=>∃l,Df B A h3 h'/\XQ As (.ref l)/\α6 As (.ref l)/\TR (X1 [] As) 61 root u h') λl w h' a b c d=>⟨l,a,b,c,d⟩;let L4:=L3.of d4 D4 V4;let k4:∀(i:Nat) xs,h1[i]?=a8 (.lst xs)->h4[i]?=a8 (.lst xs):=λi xs e=>d4.ls i xs<|k3 i xs e;let(w5,h5,(e5),x5,kr):=cU<|Lx G ⋯ (m5.ls k4) (k4 _ _ mz) (Q:=λu h'=>Ext h4 h'/\TR (X1 [] As) 61 root u h') λv h' x c=>⟨x,c⟩;let L5:=L4.ext x5;let f5:=o6.keep λi xs e=>x5 _ _ e;let t2:rT w w5 h5=.ok (.bl false) h5:=by let(xs,rfl):=f5.tup;let(ys,rfl):=kr.tup;show tY rfl<|Ha (n:=61) (m:=61) G.ho 5 f5 kr
 -- held
 let(_,h6,e6,l6,rfl,x6,g6):=cU<|AN L5.D L.v.pl ⋯ (Q:=λu h'=>∃l:Nat,u=.ref l/\Ext h5 h'/\h'[l]?=a8 (.lst<|(y_ As).map dP)) λl h' a _ b=>⟨l,rfl,a,b⟩;let L6:=L5.ext x6;let t3:rT (.ref l6) (.ref ld) h6=.ok (.bl false) h6:=tY rfl (cT (n:=189) g6 L6.dn (iS λx hx=>by let(d,hd,rfl):=v7.mp hx;let(j,X,(_),_,hX,z1):=qP hd;subst z1;show gJ<|OI (n:=149)<|L.v.pl X hX));let e7:=O' L6.D;let x7:Ext h6 (h6++[MO.lst []]):=m_ _;let g7:(h6++[MO.lst []])[h6.length]?=a8 (.lst []):=aE;let x8:Ext (h6++[MO.lst []]) (h6++[MO.lst []]++[MO.lst []]):=m_ _;let g8:(h6++[MO.lst []]++[MO.lst []])[(h6++[MO.lst []]).length]?=a8 (.lst []):=aE;let t4:=DR (x8 _ _ g7) g8;let L8:=L6.ext<|x7.trans x8;generalize h6++[MO.lst []]=h7 at e7 x7 g7 x8 g8 t4 L8;show B' (h':=h7++[MO.lst []]) (by simp[mM,mMx "now" L1.D.ob rfl,vR,e3,t1,mMx "told" L3.D.ob rfl,sX,e4,e5,t2,mMx "held" L5.D.ob rfl,dM,e6,t3,mMx "waiting" L6.D.ob rfl,sW,e7,t4])<|now ?_;generalize (h7++[MO.lst []])=h8 at x8 g8 t4 L8;clear t1 t2 t3 t4 o6 kr f5 e3 e4 e5 e6 e7;rw[aD]
 -- base
 let(_,h9,e9,r9,y9,rfl,x9,g9,uc):=cU<|Em L8.D (Q:=λu h'=>∃r y:Nat,u=.tup [.ref r,.ref y]/\Ext h8 h'/\h'[r]?=a8 (.lst [])/\h'[y]?=a8 (.lst [])) λr y h' a _ b _ c=>⟨r,y,rfl,a,b,c⟩;let xA:Ext h9 (h9++[MO.lst []]++[MO.lst []]):=(m_ _).trans<|Ext.app _ _;let gA:(h9++[MO.lst []]++[MO.lst []])[h9.length]?=a8 (.lst []):=ZN aE;let gB:(h9++[MO.lst []]++[MO.lst []])[h9.length+1]?=a8 (.lst []):=by have:=aE (h:=h9++[MO.lst []]) (o:=MO.lst []);simpa using this
 let eA:=AO h9;generalize h9++[MO.lst []]++[MO.lst []]=hA at xA gA gB eA;let L9:=(L8.ext x9).ext xA;let t5:rT (.tup [.ref r9,.ref y9]) (.tup [.ref h9.length,.ref<|h9.l+1]) hA=.ok (.bl false) hA:=by
  let e1:cQ hA 189 (.ref r9) (.ref h9.l)=true:=cT (n:=188) (xA _ _ g9) gA rfl;let e2:cQ hA 189 (.ref y9) (.ref<|h9.l+1)=true:=cT (n:=188) (xA _ _ uc) gB rfl;show tY rfl ?_
  change cY (cQ hA 189) [.ref r9,.ref y9] [.ref h9.length,.ref<|h9.l+1]=true
  unfold cY cY cY;rw[e1,e2];rfl
 show B' (h':=hA) (by simp[mM,mMx "base" L8.D.ob rfl,gE,e9,eA,t5,mMx "bound" L9.D.ob rfl,pZ,LN L9.D,_L.known,oK])<|now ?_;rw[jT];let(_,hB,(eB),z0,xB):=cU<|G1 L9.hn lhs (Q:=λu h'=>u=.bl true/\δ8 h') λh' x=>⟨rfl,x⟩;subst z0;let LB:=L9.ext xB;let xC:Ext hB (hB++[MO.lst []]):=m_ _;let t6:=DR (xC _ _ LB.dn)<|aE (h:=hB) (o:=MO.lst []);let LC:=LB.ext xC;cases As with
 |nil=>have sn:=Er LC.D;let t7:bU (sv<|aZ own ([]:k_ Ak).length) (.tup []) (hB++[MO.lst []])=.ok (.bl true) (hB++[MO.lst []]):=DQ rfl rfl;let t6:hZ (.ref ld) (.ref hB.l) (hB++[MO.lst []])=.ok (.bl false) (hB++[MO.lst []]):=t6;simp[eB,t6,mM,mMx "seen" LC.D.ob rfl,uN,sn];let t7:bU (sv<|aZ own 0) (.tup []) (hB++[MO.lst []])=.ok (.bl true) (hB++[MO.lst []]):=t7;simp[t7];show k _
 |cons X r=>have t6:hZ (.ref ld) (.ref hB.l) (hB++[MO.lst []])=.ok (.bl true) (hB++[MO.lst []]):=t6;simp[eB,t6];show k _
end
def LO(δ)(h):∃H,rV (aX<|aA (mC<|.str "")<|aA (e_ 0) aC) (mC<|.str "map") δ h=.ok (.ref h.l) H/\t_ H/\aV H h.l=a8 ((kdT []).map<|dX id)/\h.l<H.l:=by
 let g:(h++[MO.dK []])[h.length]?=a8 _:=aE;let e:rV (aX<|aA (mC<|.str "")<|aA (e_ 0) aC) (mC<|.str "map") δ h=putD (.tup [.str "",.int 0]) (.str "map") h.l (h++[.dK []]):=by simp
 let E:putD (.tup [.str "",.int 0]) (.str "map") h.l (h++[.dK []])=.ok (.ref h.l) ((h++[MO.dK []]).set h.l<|.dD<|dW [] (.tup [.str "",.int 0])<|.str "map"):=by
  unfold putD;rw[if_pos<|show(PV.tup [.str "",.int 0]).isKt=true from rfl,(jV g)]
  show if_pos (qF<|by simp)
 show I1d _ (e.trans E) (CK (m_ _)<|vk _) (eY<|aR g) (by simp)
abbrev WL(B:Nat)(A:DA)(own:Str)(ld lk lh ls:Nat)(hs:S2 0)(cs:YV 0)(x0 x1 x4:l7 PV)(q:Nat)(δ:Ev)(h:PH):Prop:=∃As fv x8 x9 e8 eh cz,As.l=q/\Am (y_ As) (X1 [] As)/\δ=[x0,x1,a_ lh,a8<|.str own,x4,a_ A.d,a_ ld,a_ lk,x8,x9,e8,eh,cz]
def main(w:YV 0)(hl:w.l<=63):∃h,KG [.fl<|w.map PV.int] []=.ok (.bl true) h:=by
 let w:(KG [.fl<|w.map PV.int] []).W λp _=>p=.bl true:=by
  show W_fn ?_;unfold KF;rw[aD];let c0:∀h,lV [.fl<|w.map PV.int,.int 0] h=.ok (.int<|cell w 0) h:=λh=>NH w 0 h;simp[c0];generalize cell w 0=f;rfl';rw[aD];obtain⟨N,eN,n1,n6⟩:∃N:Nat,1+f/24%6=(N:Int)/\1<=N/\N<=6:=⟨(1+f/24%6).toNat,⋯,⋯,⋯⟩;simp(disch:=omega);rw[eN];show KS f N n6 _ _ λq c h1 H lhs nh=>?_
  try simp
  rfl';rw[aD];let(o0,(F),O):=(FZ (v:=f/144) (m1:=mV 2) (m2:=aB F9 (mV 1)<|e_ 144) (δ:=[a8<|.fl<|w.map PV.int,b0 f,a_ c,a9,a9,a9,a9,a9,a9,a9,a9,a9,a9]) H (λz=>by rw[Wo]at z;rw[z]at lhs;simp at lhs;omega) (by simp) (by simp(disch:=omega)));let(o,lj,rfl):=v7.mp F;rw[qW,O,iX];simp only[List.set];clear O F;rfl';rw[aD];simp[dJ H];let x1:YQ (h1++[MO.lst<|q.map PV.str]):=m_ _;let G:(h1++[MO.lst<|q.map PV.str])[h1.length]?=a8 (.lst<|q.map PV.str):=aE;let lt1:=(vg.mp H).1;generalize eh2:h1++[MO.lst<|q.map PV.str]=h2 at x1 G;let t:=x1 _ _ H;rfl';rw[aD,qW];show LJ G lj (by simp) λA X x3 D b1 b2 b3 b4 b5 b6=>?_;simp only[List.set];let m:=x3 _ _ G;let lt2:=(vg.mp G).1;rfl';rw[aD];simp[iL m,AQ m];let x:DS X.l (X.set h1.l<|.lst []) A o [] .non:=D.aside ⋯ ⋯ ⋯ ⋯ ⋯ ⋯;let g:(X.set h1.l<|.lst [])[c]?=a8 (.lst<|q.map PV.str):=aI (x3 _ _ t) ⋯;let l4:(X.set h1.l<|.lst []).length=X.l:=wo;generalize X.set h1.l (.lst [])=h4 at x g l4;rfl';rw[aD];simp;let x5:Ext h4 (h4++[MO.lst []]):=m_ _;let l:(h4++[MO.lst []])[h4.length]?=a8 (.lst []):=aE;let l5:(h4++[MO.lst []]).length=h4.l+1:=by simp
  generalize h4++[MO.lst []]=h5 at x5 l l5;rfl';rw[aD];let(t,(r),x6,t6,l6):=LO [a8<|.fl<|w.map PV.int,b0 f,a_ c,a8<|.str o,a_ h1.length,a_ A.d,a_ h4.length,a9,a9,a9,a9,a9,a9] h5;rw[qW,r,iX];simp only[List.set];clear r;rfl';rw[aD];let hm:fP (w.map PV.int) (a8 1) (a8 31)=(fP w (a8 1)<|a8 31).map PV.int:=by simp[fP,HT.sIx]
  let gw:(fP w (a8 1)<|a8 31).length<=30:=by simp[fP,HT.sIx];omega
  let E:mSl (mV 0) (mP<|e_ 1) (mP<|e_ 31) [a8<|.fl<|w.map PV.int,b0 f,a_ c,a8<|.str o,a_ h1.length,a_ A.d,a_ h4.length,a_ h5.length,a9,a9,a9,a9,a9] t=.ok (.ref t.l) (t++[.lst<|(fP w (a8 1)<|a8 31).map PV.int]):=by simp[hm]
  let x7:Ext t (t++[MO.lst<|(fP w (a8 1)<|a8 31).map PV.int]):=m_ _;let u:(t++[MO.lst<|(fP w (a8 1)<|a8 31).map PV.int])[t.length]?=a8 (.lst _):=aE;generalize t++[MO.lst _]=h7 at E x7 u;generalize fP w (a8 1) (a8 31)=cs at E u gw;let o9:=x5.trans x6;let oo:=o9.trans x7;let l46:=o9.len;let lA:=D.lo;let DB:DS t.l h7 A o [] .non:=by let y:=x.ext oo;show(y.ob,y.kp,y.ea,y.se,y.gr,⟨⋯,⋯,⋯,⋯⟩,y.ne)
  let rl:=(vg.mp x.gr.1).1;let xl:=(vg.mp x.gr.2).1;let ll:=(vg.mp g).1;let L7:LS t.l h7 A o [] .non h4.l h5.l c t.l q cs (dsF o 0 []) (dF o 0 [] []):=⟨DB,.inl ⟨rfl,nofun⟩,trivial,(x6.trans x7) _ _ l,bF t6 λo=>x7 _ o,oo _ _ g,u,x7.len,⟨⋯,l6⟩,⟨⋯,⋯,⋯,⋯⟩,⟨⋯,⋯,⋯,⋯⟩⟩;show oM (n:=t.l) (xs:=cs.map PV.int) (h1:=h7) (WL t.l A o h4.l h5.l c t.l q cs _ (b0 f)<|a_ h1.l) E u (I7c [] _ _ _ _ _ _ rfl L7 rfl) ?_ ?_ ?_
  ·show λq δ k _ u6=>E7c u6 λs V x8 x9 e8 eh cz lq L z2=>?_;subst z2;show L.sc
  ·show λq z δ k hz iw=>E7c iw λs V x8 x9 e8 eh cz lq L z1=>?_;subst z1;rw[wm]at hz;let(c,hc,rfl):=w8.mp hz;let hq:=(vg.mp hc).1;show A0 rfl ?_;show O8 L ⋯ c λh8 X F y9 y10 y11 L8=>?_;show I7c (s++[X]) F _ _ _ _ _ (by simp[lq]) L8 rfl
  ·show λδ k dv=>E7c dv λs V x8 x9 e8 eh cz lq L z0=>?_;subst z0;rw[vn]at lq;rfl';show QY L ⋯ ⋯ λ_=>rfl
 let(p,h,e,rfl):=cU w;show(h,e)
abbrev top(i:Nat):ko:=PySem.Challenge.pw_copymeet_k81_deeds_done.main.body.getD i<|.Pass ⟨0,0,0,0⟩
@[reducible]def bsL:S2 0:=["len","range","list","str","isinstance","tuple","dict","sum","sorted","max","set","enumerate","reversed","bool"]
@[reducible]def cC(w:j2)(K:vj)(cl:Str->l7 h_):MC:=⟨K,cl,bsL,λ_ _ _=>False,w⟩
@[reducible]def clF(ba ar cc az bc bj bo aq bh:h_):Str->l7 h_:=λz=>if z=("Count" : Str) then a8 ba else if z=("Choice" : Str) then a8 ar else if z=("Bag" : Str) then a8 cc else if z=("Marks" : Str) then a8 az else if z=("Signs" : Str) then a8 bc else if z=("Text" : Str) then a8 bj else if z=("Tree" : Str) then a8 bo else if z=("Folding" : Str) then a8 aq else if z=("Desk" : Str) then a8 bh else a9
def clI{p:h_->Prop}{ba ar cc az bc bj bo aq bh a:h_}{c:Str}(hc:clF ba ar cc az bc bj bo aq bh c=a8 a)(dm:p ba)(di:p ar)(i5:p cc)(dq:p az)(dt:p bc)(fx:p bj)(fw:p bo)(cw:p aq)(gi:p bh):p a:=by
 dsimp only[clF]at hc;split at hc
 ·cases hc
  show dm
 split at hc
 ·cases hc
  show di
 split at hc
 ·cases hc
  show i5
 split at hc
 ·cases hc
  show dq
 split at hc
 ·cases hc
  show dt
 split at hc
 ·cases hc
  show fx
 split at hc
 ·cases hc
  show fw
 split at hc
 ·cases hc
  show cw
 split at hc
 ·cases hc
  show gi
 cases hc
@[reducible]def fL:S2 0:=["early","failed","floor","folding","ground","hand","hands","kept","leaves","made","marks","settles","signs","standing","taken","thrown","total","tree"]
abbrev NfX(K:vj)(A:h_):S2 0->Prop
 |[]=>True
 |f::r=>yh K (.ref A) f=a8 a9/\NfX K A r
def NfX.at{K:vj}{A:h_}{f:Str}{l:S2 0}(h:NfX K A l)(m:f∈l):yh K (.ref A) f=a8 a9:=by
 induction l with
 |nil=>exact absurd m Ws
 |cons a l ih=>exact(v8.mp m).elim (λe=>by subst e;show h.1) (ih h.2)
def at2{a b:Prop}(h:a)(f:a->b):b:=f h
def anE{a b c:Prop}(h:a/\b)(f:a->b->c):c:=f h.1 h.2
abbrev tgN:j_->S2 0
 |.Name x _=>[x]
 |.Tuple es _ _=>es.flatMap λe=>match e with
  |.Name x _=>[x]
  |.Tuple gs _ _=>gs.flatMap λe=>match e with
   |.Name x _=>[x]
   |_=>[]
  |_=>[]
 |_=>[]
abbrev mkN(o:S2 0):k_ (l7 Nat)->S2 0->S2 0
 |some j::r,xs=>ζj "" :: mkN o r xs
 |none::r,x::xs=>x::mkN o r xs
 |_,_=>[]
abbrev ndB:S2 0->Bool
 |[]=>true
 |x::r=>r.all (λy=>!decide (x=y))&&ndB r
def qD:∀{l:S2 0},ndB l=true->l.Nodup
 |[],_=>.nil
 |x::r,h=>by simp only[ndB,wy,we]at h;show Vp.2 ⟨λm=>by simpa using h.1 x m,qD h.2⟩
section
variable{C:MC}{k i:Nat}{X:Cx}{elt iter tg:j_}{ifs:k_ j_}{sc os:Scope}{pos pos' bq:Pos}{oN:S2 0}{js:k_ (l7 Nat)}{mi:Mi}{g:Mg}{tt:Ev->PH->X7 0}{me:Me}{x:Str}
def UZ(e:X.env.scope=os)(e':X.N=oN)(h:Zn (Y_<|tgN tg) js=true)(nd:ndB (Y_<|tgN tg)=true)(hi:YO mi)
  (hg:∀a b c d,(FR (Y_<|tgN tg) a b c d).N.Nodup->δQ (FR (Y_<|tgN tg) a b c d) tg g/\ζt (FR (Y_<|tgN tg) a b c d) ifs tt/\SE C k (FR (Y_<|tgN tg) a b c d) elt me)
  (hs:wP (∀x,Yn x=pure x) kt):n_ (.ListComp elt [⟨tg,iter,ifs,0⟩] sc pos) (δt g tt me):=PY e e' h hi (λa b c d=>(βQ<|qD nd).1) (λa b c d=>(βQ<|qD nd).2.1) (λa b c d=>(βQ<|qD nd).2.2) hs
def V0(nd:X.N.Nodup)(h1:X.N[i]?=a8 x)(h2:A6 0=a8 .local)(e:X.env.scope=os)(e':X.N=oN)(h:Zn (Y_<|tgN tg) js=true)(gv:ndB (Y_<|tgN tg)=true)(hi:YO mi)
  (hg:∀a b c d,(FR (Y_<|tgN tg) a b c d).N.Nodup->δQ (FR (Y_<|tgN tg) a b c d) tg g/\ζt (FR (Y_<|tgN tg) a b c d) ifs tt/\SE C k (FR (Y_<|tgN tg) a b c d) elt me)
  (u1:wP (Xs (.ListComp elt [⟨tg,iter,ifs,0⟩] sc pos) (a8<|.Name x pos') bq.line X.env=pure true) zn) (hs:wP (∀x,Yn x=pure x) kt):XZ (.Assign [.Name x pos'] (.ListComp elt [⟨tg,iter,ifs,0⟩] sc pos) bq) (aT i<|bK js mi g tt me):=Ii nd h1 h2 e e' h hi (λa b c d=>(βQ<|qD gv).1) (λa b c d=>(βQ<|qD gv).2.1) (λa b c d=>(βQ<|qD gv).2.2) u1 hs
end
abbrev fsB(N:S2 0)(n:Nat)(sc:Scope):Bool:=(match sc.kind with|.function=>true|_=>false) && !sc.isCoroutine && !sc.isGenerator&&ndB N&&decide (n<=N.l)&&(ZJ 0).all (λx=>match P1 0 with|some .local=>true|some .cell=>true|_=>false)&&sc.names.all λy=>match y.2 with|.free=>false|_=>true
def G2{N:S2 0}{n:Nat}{sc:Scope}(h:fsB N n sc=true):mK N (ZJ 0) sc/\(ZJ 0).length=n:=by
 simp only[fsB,wy,Bool.not_eq_true',we,decide_eq_true_eq]at h;let((((((h1,h2),h3),h4),h5),h6),h7):=h;let hl:(ZJ 0).length=n:=by rw[zm];omega
 show(⟨?_,h2,h3,qD h4,by rw[hl],λx m=>?_,λy m e=>?_⟩,hl)
 ·split at h1
  ·assumption
  ·cases h1
 ·have:=h6 x m;split at this
  ·show .inl (by assumption)
  ·show .inr (by assumption)
  ·cases this
 ·have:=h7 y m;rw[e]at this;cases this
abbrev FnX(K:vj)(f:h_)(nm qual:Str)(st:ko):Prop:=∃oc kV doc pm cdv ct od an osl,K.lookup f=a8 ⟨oc,od,.func<|Vu nm qual (eI st) (bV st) (aM st) .none kV doc pm an cdv ct,osl⟩/\XN K cdv qual=true/\Vi K (.ref f)=true
abbrev MtX(K:vj)(A:h_)(nm qual:Str)(st:ko):Prop:=∃f,yh K (.ref A) nm=a8 (a_ f)/\PySem.W.isFn K (.ref f)=true/\FnX K f nm qual st
abbrev DfX(K:vj)(nm:Str)(st:ko):Prop:=∃f,β8 nm=a8 (a_ f)/\FnX K f nm nm st
abbrev DsL(K:vj):k_ (Str×Nat)->Prop
 |[]=>True
 |(x,i)::r=>DfX K x (top i)/\DsL K r
abbrev fA(K:vj)(x:Str):h_:=match β8 x with
 |some (a_ f)=>f
 |_=>0
abbrev mA(K:vj)(A:h_)(x:Str):h_:=match yh K (.ref A) x with
 |some (a_ f)=>f
 |_=>0
abbrev dA(K:vj)(a:h_):zy:=match δc 0 with
 |some ⟨_,_,.func f,_⟩=>f
 |_=>Vu "" "" (eI<|top 0) [] (aM<|top 0) .none .none .none .none a9 .none .none
def DsL.at{K:vj}{x:Str}{i:Nat}{l:k_ (Str×Nat)}(h:DsL K l)(m:(x,i)∈l):DfX K x (top i):=by
 induction l with
 |nil=>exact absurd m Ws
 |cons a l ih=>exact(v8.mp m).elim (λe=>by subst e;show h.1) (ih h.2)
@[reducible]def BdX(nm qual:Str)(st:ko)(n:Nat)(ps:S2 0):Prop:=∀(kV doc pm:gV)(an:l7 h_)(cdv ct:gV)(us:YX 0),us.l=n->bindArgs (Vu nm qual (eI st) (bV st) (aM st) .none kV doc pm an cdv ct) ⟨us,[]⟩=pure (ps.zip us)
abbrev BdP(P:YX 0->Prop):Nat->Prop
 |0=>P []
 |n+1=>∀u,BdP (λus=>P (u::us)) n
def bdP:∀{n:Nat}{P:YX 0->Prop}{us:YX 0},BdP P n->us.l=n->P us
 |0,_,[],h,_=>h
 |_+1,P,u::_,h,hl=>bdP (P:=λus=>P (u::us)) (h u) (Nat.succ.inj hl)
@[reducible]def BdQ(nm qual:Str)(st:ko)(n:Nat)(ps:S2 0):Prop:=BdP (λus=>∀(kV doc pm:gV)(an:l7 h_)(cdv ct:gV),bindArgs (Vu nm qual (eI st) (bV st) (aM st) .none kV doc pm an cdv ct) ⟨us,[]⟩=pure (ps.zip us)) n
def bdX{nm qual:Str}{st:ko}{n:Nat}{ps:S2 0}(b:BdQ nm qual st n ps):BdX nm qual st n ps:=λk d p a c t _ hl=>bdP b hl k d p a c t
structure ClX(K:vj)(A:h_)(nm:Str)(fs:k_ Str):Prop where
 n:VS K y8 nm=some (a_ A)
 pg:Xu K A Str.empty=true
 hd:PySem.W.hasDictIn K A=true
 po:PySem.W.plainOver K A=true
 sa:yh K (.ref A) "__setattr__" = some (some (.builtin "object.__setattr__"))
 mx:PySem.W.makesIn K A=true
 kc:Vi K (.ref A)=true
 nf:NfX K A fs
def ClX.cls9{K:vj}{A:h_}{nm:Str}{fs:S2 0}(q:ClX K A nm fs):Cls K A:=⟨q.pg,q.hd,q.po,q.sa⟩
structure ClZ(w:j2)(K:vj)(mg:d9 0)(cl:Str->l7 h_)(c:Str)(A:h_):Prop where
 cl:cl c=some A
 hc:Cls K A
 mg:mg c=a_ A
 mx:PySem.W.makesIn K A=true
 kc:Vi K (.ref A)=true
def mtN{C:MC}{k:Nat}{X:Cx}{m c:Str}{n j:Nat}{a g:h_}{fd:zy}{ps:S2 0}{f:Fn}{tb:Str->l7 Fn}(h:(C.cl c=a8 a/\Cls C.K a)/\CV C.K a m g/\q_ g fd ps (βV (n+1) f)/\ZR [])(h6:j<=k)(r:αC tb):αC (λz=>if z=c then a8 f else tb z):=Nb h.1.1 h.1.2 h.2.1 h6 h.2.2.1 h.2.2.2 r
abbrev MsL(K:vj)(A:h_):k_ (Str×Str×Nat×Nat)->Prop
 |[]=>True
 |(x,q,i,j)::r=>MtX K A x q (inClass (top i) j)/\MsL K A r
@[reducible]def dL:k_ (Str×Nat):=[(("_law_cell_at" : Str),72),(("_law_stream" : Str),73),(("_law_hands" : Str),74),(("empty" : Str),54),(("_law_act" : Str),75),(("kind_for" : Str),47),(("check_thing" : Str),67),(("check_ring" : Str),68),(("check_act" : Str),66),(("leaf_of" : Str),46),(("stamp" : Str),6),(("rank" : Str),7),(("in_order" : Str),8),(("name_of" : Str),18),(("takers" : Str),20),(("in_force" : Str),21),(("place_of" : Str),32),(("stand_of" : Str),50),(("covers" : Str),3),(("joined" : Str),4),(("widened" : Str),5),(("rank_of" : Str),29),(("row_rank" : Str),30),(("row_thing" : Str),51),(("fold" : Str),55),(("numbers_of" : Str),23),(("numbered" : Str),36),(("told" : Str),56),(("_law_refused" : Str),76),(("law" : Str),77)]
@[reducible]def Hf:k_ (Str×Str×Nat×Nat):=[("__init__","Count.__init__",25,0),("content","Count.content",25,3),("fill","Count.fill",25,4),("hear","Count.hear",25,1),("told","Count.told",25,2)]
@[reducible]def Et:k_ (Str×Str×Nat×Nat):=[("__init__","Choice.__init__",26,0),("content","Choice.content",26,3),("fill","Choice.fill",26,4),("hear","Choice.hear",26,1),("told","Choice.told",26,2)]
@[reducible]def OJ:k_ (Str×Str×Nat×Nat):=[("__init__","Bag.__init__",27,0),("content","Bag.content",27,3),("fill","Bag.fill",27,4),("hear","Bag.hear",27,1),("told","Bag.told",27,2)]
@[reducible]def Hg:k_ (Str×Str×Nat×Nat):=[("__init__","Marks.__init__",39,0),("ends","Marks.ends",39,5),("fill","Marks.fill",39,7),("rows","Marks.rows",39,6),("words_along","Marks.words_along",39,4)]
@[reducible]def Hh:k_ (Str×Str×Nat×Nat):=[("__init__","Signs.__init__",41,0),("fill","Signs.fill",41,5),("rows","Signs.rows",41,4)]
@[reducible]def LP:k_ (Str×Str×Nat×Nat):=[("__init__","Text.__init__",43,0),("content","Text.content",43,5),("fill","Text.fill",43,6),("places","Text.places",43,3),("told","Text.told",43,4)]
@[reducible]def LQ:k_ (Str×Str×Nat×Nat):=[("__init__","Tree.__init__",49,0),("fill","Tree.fill",49,12),("hear","Tree.hear",49,1),("hear_make","Tree.hear_make",49,2),("hear_move","Tree.hear_move",49,3),("held","Tree.held",49,7),("kind_of","Tree.kind_of",49,6),("lost","Tree.lost",49,10),("put","Tree.put",49,5),("ring","Tree.ring",49,8),("rows","Tree.rows",49,11),("takes","Tree.takes",49,4),("within","Tree.within",49,9)]
@[reducible]def BW:k_ (Str×Str×Nat×Nat):=[("__init__","Folding.__init__",53,0),("add_leaf","Folding.add_leaf",53,1),("base","Folding.base",53,4),("content_of","Folding.content_of",53,5),("hanging","Folding.hanging",53,8),("hear","Folding.hear",53,2),("hear_tree","Folding.hear_tree",53,3),("telling","Folding.telling",53,9),("told","Folding.told",53,7)]
@[reducible]def LU:k_ (Str×Str×Nat×Nat):=[("__init__","Desk.__init__",70,0),("base","Desk.base",70,14),("bound","Desk.bound",70,13),("do","Desk.do",70,1),("folded","Desk.folded",70,9),("held","Desk.held",70,7),("now","Desk.now",70,10),("seen","Desk.seen",70,5),("take_in","Desk.take_in",70,4),("told","Desk.told",70,11),("waiting","Desk.waiting",70,6)]
abbrev hdB:k_ ko->k_ ko
 |[_,_,.Try _ [.ExceptHandler _ _ b _] _ _ _,_]=>b
 |_=>[]
def LV{K:vj}{a:h_}:Vo K (.ref a) (.ref a)=a8 true:=by unfold Vo;show if_pos<|beq_self_eq_true _
section
variable{P:j3}{w:j2}{K:vj}{mg:d9 0}{base:jo}{cl:Str->l7 h_}
variable(P w K mg base cl)
@[reducible]def tC(j:Nat)(x:Str)(t:Nat)(N:S2 0)(n:Nat)(m:Fn):Prop:=Def K mg x (top t) (fA K x) (dA K<|fA K x) (ZJ 0)/\XW CX0 j (fA K x) (dA K<|fA K x) (ZJ 0) (spM (α7 0) n m)
@[reducible]def tM(c:Str)(A:h_)(j:Nat)(x:Str)(N:S2 0)(n:Nat)(m:Fn):Prop:=(cl c=a8 A/\Cls K A)/\CV K A x (εW x)/\XW CX0 j (εW x) (dA K<|mA K A x) (ZJ 0) (spM (α7 0) n m)/\Binds K (dA K<|mA K A x) (ZJ 0) []
@[reducible]def tI(c:Str)(A:h_)(j:Nat)(N:S2 0)(n:Nat)(m:Fn):Prop:=cl c=a8 A/\Mk K A (εW "__init__")/\XW CX0 j (εW "__init__") (dA K<|mA K A "__init__") (ZJ 0) (spM (α7 0) n m)/\mg c=a_ A/\Binds K (dA K<|mA K A "__init__") (ZJ 0) []
@[reducible]def tJ(B:h_)(c:Str)(A:h_)(j:Nat)(N:S2 0)(n:Nat)(m:Fn):Prop:=cl c=a8 A/\Mk K A (εW "__init__")/\XW (CXN P w) j (εW "__init__") (dA K<|mA K A "__init__") (ZJ 0) (spY (α7 0) B n m)/\mg c=a_ A/\Binds K (dA K<|mA K A "__init__") (ZJ 0) []
variable{P w K mg base cl}
def mbL{x:Str}(h:wP (x∈bsL) v0):x∈bsL:=h
structure ZZ(P:j3)(base:jo)(w:j2)(K:vj)(mg:d9 0)(cl:Str->l7 h_)(A_Count A_Choice A_Bag A_Marks A_Signs A_Text A_Tree A_Folding A_Desk dB qE A_NoHand A_MeetError A_NoThing:h_):Prop where
 hbn:∀x∈bsL,mg x=none
 XG:∃h:jo,K.In h/\h.Ns y8 mg
 ds:DsL K dL
 z_Count:ClZ w K mg cl "Count" A_Count
 m_Count:MsL K A_Count Hf
 z_Choice:ClZ w K mg cl "Choice" A_Choice
 m_Choice:MsL K A_Choice Et
 z_Bag:ClZ w K mg cl "Bag" A_Bag
 m_Bag:MsL K A_Bag OJ
 z_Marks:ClZ w K mg cl "Marks" A_Marks
 m_Marks:MsL K A_Marks Hg
 z_Signs:ClZ w K mg cl "Signs" A_Signs
 m_Signs:MsL K A_Signs Hh
 z_Text:ClZ w K mg cl "Text" A_Text
 m_Text:MsL K A_Text LP
 z_Tree:ClZ w K mg cl "Tree" A_Tree
 m_Tree:MsL K A_Tree LQ
 z_Folding:ClZ w K mg cl "Folding" A_Folding
 m_Folding:MsL K A_Folding BW
 z_Desk:ClZ w K mg cl "Desk" A_Desk
 m_Desk:MsL K A_Desk LU
 MG_KIND_FOR:mg "KIND_FOR" = a_ dB
 GT_KIND_FOR:T5 (cC w K cl) dB [("add","count"),("choose","choice"),("put","bag"),("take","bag"),("write","text"),("cut","text"),("mark","text"),("clear","text")]
 MG_ROOT:mg "ROOT" = a_ qE
 GT_ROOT:T1 K qE [.str "",.int (0)]
 ff:∀f∈fL,Ip (cC w K cl) f
 xn:XCn K A_NoHand
 mgN:mg "NoHand" = a_ A_NoHand
 xg:XCg K A_NoHand
 xi:_L.XI K A_NoHand
 xmM:XM K A_NoHand A_MeetError
 mgM:mg "MeetError" = a_ A_MeetError
 mgV:mg "ValueError" = none
 kV:Vo K (.ref A_NoHand) (.type "ValueError")=some true
 mgT:mg "NoThing" = a_ A_NoThing
 kT:Vo K (.ref A_NoHand) (.ref A_NoThing)=some false
variable{A_Count A_Choice A_Bag A_Marks A_Signs A_Text A_Tree A_Folding A_Desk dB qE A_NoHand A_MeetError A_NoThing:h_}(Z:ZZ P base w K mg cl A_Count A_Choice A_Bag A_Marks A_Signs A_Text A_Tree A_Folding A_Desk dB qE A_NoHand A_MeetError A_NoThing)
include Z
def dfM{k t:Nat}{x:Str}{N:S2 0}{n:Nat}{body:Ms}
  (h:∀f cdv A outer s H E,N.Nodup->SSs (α7 0) k (Y0 x (aM<|top t) f cdv A outer s H E).nox (bV<|top t) body) (c:wP (fsB N n (aM<|top t)=true) v0) (d:wP ((x,t)∈dL) v0) (b:BdQ x x (top t) n (ZJ 0):=by(repeat intro _);rfl):p0 (k+1) x t N n (mFn N.l body):=by
 let b:=bdX b;let(f,a,_,_,_,_,_,_,_,_,_,l,o,p):=Z.ds.at d;let(_,X,G):=Z.XG;let(S,e):=G2 c;let D:=Def.mk' X G a l o p (ps:=ZJ 0) (by rwa[e]);let F:=Oo (C:=α7 0) (P:=P) (mg:=mg) (base:=base) (λ_ _ _ h=>h) Z.hbn (C4 (st:=top t) l o p) S λcdv A outer s H E=>βk 0;rw[e]at F;let q:fA K x=f:=by rw[fA,a]
 rw[tC,q,dA,l];show(D,F)
def fdL{f:Str}(h:wP (f∈fL) v0):Ip (α7 0) f:=Z.ff f h
def mtM{k n:Nat}{A:h_}{c x q:Str}{st:ko}{N:S2 0}{body:Ms}(z:εd A)(y:MtX K A x q st)
  (h:∀f cdv A outer s H E,N.Nodup->SSs (α7 0) k (Y0 q (aM st) f cdv A outer s H E).nox (bV st) body) (c':wP (fsB N n (aM st)=true) v0) (b:BdQ x q st n (ZJ 0):=by(repeat intro _);rfl):f_ c A (k+1) x N n (mFn N.l body):=by
 let b:=bdX b;let(f,a,i,_,_,_,_,_,_,_,_,_,l,o,p):=y;let F:=C4 (st:=st) l o p;let(S,e):=G2 c';let G:=Oo (C:=α7 0) (P:=P) (mg:=mg) (base:=base) (λ_ _ _ h=>h) Z.hbn F S λcdv A outer s H E=>βk 0;rw[e]at G;let r:εW x=f:=by rw[mA,a]
 rw[tM,r,dA,l];show(⟨z.cl,z.hc⟩,⟨a,i,p⟩,G,F.binds (ps:=ZJ 0)<|by rwa[e])
def mkM{k n:Nat}{A:h_}{c q:Str}{st:ko}{N:S2 0}{body:Ms}(z:εd A)(y:MtX K A "__init__" q st)
  (h:∀f cdv A outer s H E,N.Nodup->SSs (α7 0) k (Y0 q (aM st) f cdv A outer s H E).nox (bV st) body) (c':wP (fsB N n (aM st)=true) v0) (b:BdQ "__init__" q st n (ZJ 0):=by(repeat intro _);rfl):J_ c A (k+1) N n (mFn N.l body):=by
 let(_,m,a,b'):=I_ z y h c' b;show(z.cl,⟨z.mx,m.at_,m.fn,z.kc⟩,a,z.mg,b')
def mkJ{k n:Nat}{A:h_}{c q:Str}{st:ko}{N:S2 0}{body:Ms}(z:εd A)(y:MtX K A "__init__" q st)
  (h:∀f cdv A outer s H E,N.Nodup->SSs ((α7 0).wx<|exY A_NoHand<|mL (CXN P w) P w K mg base N q (aM st) f cdv A outer s H E) k (mL (CXN P w) P w K mg base N q (aM st) f cdv A outer s H E) (bV st) body) (c':wP (fsB N n (aM st)=true) v0) (b:BdQ "__init__" q st n (ZJ 0):=by(repeat intro _);rfl):δv c A (k+1) N n (mFn N.l body):=by
 let b:=bdX b;let(f,a,i,_,_,_,_,_,_,_,_,_,l,o,p):=y;let F:=C4 (st:=st) l o p;let(S,e):=G2 c';let G:=Qy (C:=α7 0) (cA:=A_NoHand) (P:=P) (mg:=mg) (base:=base) Z.hbn F S λcdv A outer s H E=>βk 0;rw[e]at G;let r:εW "__init__" = f:=by rw[mA,a]
 let m:CV K A "__init__" f:=⟨a,i,p⟩;rw[tJ,r,dA,l];show(z.cl,⟨z.mx,m.at_,m.fn,z.kc⟩,G,z.mg,F.binds (ps:=ZJ 0)<|by rwa[e])
def QZ{N:S2 0}(eN:N=[("_law_hands_here" : Str),"_law_stranger","_law_refused_here","e"])(nd:N.Nodup){f:h_}{cdv:gV}{A:i_}{outer:k_ Env}{s:g_}{H0:Hp}{E0:XK}(ea:h_)(E:b9 0):∃tS,PSs ((Y0 "_law_refused" (aM<|top 76) f cdv A outer s H0 E0).nox.marked ea E) (hdB<|bV<|top 76) tS/\∀(σ:k_ (l7 V))(H:Hp)(tb:gV)(D:Ends),σ.l=N.l->σ[3]?=a8 (a_ ea)->H ea=a8 (xo ea<|pN A_NoHand tb)->(∀H',wX H H'->D.nx (σ.set 2<|b0 1) H')->tS D σ H:=by
 subst eN;apply Exists.intro;apply And.intro
 ·(conv=>arg 2;whnf)
  show BY (Oa (PW.pt<|Ew (Eu<|Fz Z.xg Z.xi (yB (i:=3) (by rfl)<|by show .inl rfl) (xG (v:=.ref A_NoHand) (by rfl) Z.mgN rfl) (λu r=>r) LV<|Z.hbn _ mbL)<|Ew (Eu<|Fz Z.xg Z.xi (yB (i:=3) (by rfl)<|by show .inl rfl) (G4 (v:=.ty "ValueError") (by rfl) Z.mgV PyProof.Rows.Boot.«ValueError» rfl) (λu r=>r) Z.kV<|Z.hbn _ mbL)<|G5<|IS<|Eu<|Fz Z.xg Z.xi (yB (i:=3) (by rfl)<|by show .inl rfl) (xG (v:=.ref A_NoThing) (by rfl) Z.mgT rfl) (λu r=>r) Z.kT<|Z.hbn _ mbL) (BY<|IW (i:=2) nd (by rfl) (by show .inl rfl) IR (by rfl)<|by show .inr rfl) G6)
 ·intro σ H tb D hl hσ he hD;let iv:∀{cv:V}{b:Bool}{Q:Bool->Hp->Prop},Q b H->tB (T9 A_NoHand cv b<|Rb 3) σ H Q:=λ{cv b Q} h4=>⟨.ref ea,hσ,.ref ea,rfl,ea,tb,rfl,he,b,rfl,h4⟩;dsimp only[Rj,Rc,Re,M1,G7,tC];show iv ?_;rw[if_pos rfl];show iv ?_;rw[if_pos rfl];show iv ?_;show hD H λ_ _ q=>q
def TH:p0 11 "law" 77 ["_law_script","_law_first","_law_hands_here","_law_own","_law_handed","_law_desk","_law_done","_law_kinds","_law_cell","_law_act_here","_law_number","_law_deed","_law_due"] 1 KG:=by
 refine
  at2 (dfM Z λ_ _ _ _ _ _ _ nd=>?_:p0 1 "_law_cell_at" 72 ["_law_script","_law_k"] 2 lV) λ_=>
  at2 (dfM Z λ_ _ _ _ _ _ _ nd=>?_:p0 1 "_law_stream" 73 ["_law_cell","_law_many","_law_found","_law_number","_law_k"] 2 uD) λ_=>
  at2 (dfM Z λ_ _ _ _ _ _ _ nd=>?_:p0 2 "_law_hands" 74 ["_law_cell","_law_many","_law_letters","_law_xs","_law_stem","_law_at"] 2 Cw) λ_=>
  at2 (dfM Z λ_ _ _ _ _ _ _ nd=>?_:p0 1 "empty" 54 [] 0 jX) λ_=>
  at2 (mkM Z Z.z_Desk Z.m_Desk.1 λ_ _ _ _ _ _ _ nd=>?_:J_ "Desk" A_Desk 2 ["self","hand","hands"] 3 iB) λ_=>
  at2 (dfM Z λ_ _ _ _ _ _ _ nd=>?_:p0 2 "_law_act" 75 ["_law_cell","_law_kinds","_law_xs","_law_names","_law_thing","_law_number","_law_words","_law_kind"] 2 KD) λ_=>
  at2 (dfM Z λ_ _ _ _ _ _ _ nd=>?_:p0 1 "kind_for" 47 ["word"] 1 eM) λ_=>
  at2 (Yo Z.m_Tree.2.2.2.2.2.1 λ_ _ _ _ _ _ _ nd=>?_:f_ "Tree" A_Tree 1 "held" ["self","thing"] 2 jY) λ_=>
  at2 (Yo Z.m_Tree.2.2.2.2.2.2.1 λ_ _ _ _ _ _ _ nd=>?_:f_ "Tree" A_Tree 1 "kind_of" ["self","thing"] 2 fB) λ_=>
  at2 (dfM Z λ_ _ _ _ _ _ _ nd=>?_:p0 2 "check_thing" 67 ["tree","word","thing","kind"] 3 gI) λ_=>
  at2 (Yo Z.m_Tree.2.2.2.2.2.2.2.2.2.2.2.1 λ_ _ _ _ _ _ _ nd=>?_:f_ "Tree" A_Tree 2 "takes" ["self","holder","spot"] 3 iM) λ_=>
  at2 (Yo Z.m_Tree.2.2.2.2.2.2.2.2.2.1 λ_ _ _ _ _ _ _ nd=>?_:f_ "Tree" A_Tree 1 "ring" ["self","thing","holder","way","upper"] 3 oY) λ_=>
  at2 (dfM Z λ_ _ _ _ _ _ _ nd=>?_:p0 2 "check_ring" 68 ["tree","thing","holder","ring"] 3 uE) λ_=>
  at2 (dfM Z λ_ _ _ _ _ _ _ nd=>?_:p0 3 "check_act" 66 ["folding","act","word"] 2 bT) λ_=>
  at2 (mkM Z Z.z_Tree Z.m_Tree.1 λ_ _ _ _ _ _ _ nd=>?_:J_ "Tree" A_Tree 1 ["self"] 1 iD) λ_=>
  at2 (δa Z.m_Count.2.2.1 λ_ _ _ _ _ _ _ nd=>?_:f_ "Count" A_Count 1 "fill" ["self","content"] 2 uF) λ_=>
  at2 (γK Z.m_Choice.2.2.1 λ_ _ _ _ _ _ _ nd=>?_:f_ "Choice" A_Choice 1 "fill" ["self","content"] 2 rB) λ_=>
  at2 (εX Z.m_Bag.2.2.1 λ_ _ _ _ _ _ _ nd=>?_:f_ "Bag" A_Bag 1 "fill" ["self","content"] 2 Ao) λ_=>
  at2 (δb Z.m_Marks.2.2.1 λ_ _ _ _ _ _ _ nd=>?_:f_ "Marks" A_Marks 1 "fill" ["self","rows"] 2 uG) λ_=>
  at2 (I_ Z.z_Signs Z.m_Signs.2.1 λ_ _ _ _ _ _ _ nd=>?_:f_ "Signs" A_Signs 1 "fill" ["self","rows"] 2 uH) λ_=>
  at2 (εf Z.m_Text.2.2.1 λ_ _ _ _ _ _ _ nd=>?_:f_ "Text" A_Text 2 "fill" ["self","content","sign_rows","mark_rows"] 2 wR) λ_=>
  at2 (Yo Z.m_Tree.2.1 λ_ _ _ _ _ _ _ nd=>?_:f_ "Tree" A_Tree 1 "fill" ["self","rows","lost","thing","kind","holder","spot"] 3 pB) λ_=>
  at2 (mkM Z Z.z_Count Z.m_Count.1 λ_ _ _ _ _ _ _ nd=>?_:J_ "Count" A_Count 1 ["self"] 1 lX) λ_=>
  at2 (mkM Z Z.z_Choice Z.m_Choice.1 λ_ _ _ _ _ _ _ nd=>?_:J_ "Choice" A_Choice 1 ["self"] 1 kC) λ_=>
  at2 (mkM Z Z.z_Bag Z.m_Bag.1 λ_ _ _ _ _ _ _ nd=>?_:J_ "Bag" A_Bag 1 ["self"] 1 pD) λ_=>
  at2 (mkM Z Z.z_Signs Z.m_Signs.1 λ_ _ _ _ _ _ _ nd=>?_:J_ "Signs" A_Signs 1 ["self"] 1 lZ) λ_=>
  at2 (mkM Z Z.z_Marks Z.m_Marks.1 λ_ _ _ _ _ _ _ nd=>?_:J_ "Marks" A_Marks 1 ["self"] 1 mD) λ_=>
  at2 (mkM Z Z.z_Text Z.m_Text.1 λ_ _ _ _ _ _ _ nd=>?_:J_ "Text" A_Text 3 ["self"] 1 nX) λ_=>
  at2 (dfM Z λ_ _ _ _ _ _ _ nd=>?_:p0 5 "leaf_of" 46 ["kind"] 1 vJ) λ_=>
  at2 (YS Z.m_Folding.2.1 λ_ _ _ _ _ _ _ nd=>?_:f_ "Folding" A_Folding 6 "add_leaf" ["self","thing","kind","leaf"] 3 jE) λ_=>
  at2 (mkM Z Z.z_Folding Z.m_Folding.1 λ_ _ _ _ _ _ _ nd=>?_:J_ "Folding" A_Folding 7 ["self","base","rows","lost","thing","kind","holder","spot","content"] 2 bQ) λ_=>
  at2 (dfM Z λ_ _ _ _ _ _ _ nd=>?_:p0 1 "stamp" 6 ["deed"] 1 xT) λ_=>
  at2 (dfM Z λ_ _ _ _ _ _ _ nd=>?_:p0 2 "rank" 7 ["deed","hand","n"] 1 FC) λ_=>
  at2 (dfM Z λ_ _ _ _ _ _ _ nd=>?_:p0 5 "in_order" 8 ["deeds","by_name","deed"] 1 fS) λ_=>
  at2 (dfM Z λ_ _ _ _ _ _ _ nd=>?_:p0 1 "name_of" 18 ["deed"] 1 qK) λ_=>
  at2 (dfM Z λ_ _ _ _ _ _ _ nd=>?_:p0 4 "takers" 20 ["deeds","taken","backs","deed","hand","n","word","by"] 1 Aq) λ_=>
  at2 (dfM Z λ_ _ _ _ _ _ _ nd=>?_:p0 6 "in_force" 21 ["deeds","ordered","taken"] 1 sE) λ_=>
  at2 (YZ Z.m_Desk.2.2.2.2.2.1 λ_ _ _ _ _ _ _ nd=>?_:f_ "Desk" A_Desk 6 "held" ["self"] 1 pG) λ_=>
  at2 (dfM Z λ_ _ _ _ _ _ _ nd=>?_:p0 1 "place_of" 32 ["spot","name","under","side","hand","n"] 2 Ar) λ_=>
  at2 (dfM Z λ_ _ _ _ _ _ _ nd=>?_:p0 2 "stand_of" 50 ["spot","name"] 2 jF) λ_=>
  at2 (Yo Z.m_Tree.2.2.2.1 λ_ _ _ _ _ _ _ nd=>?_:f_ "Tree" A_Tree 3 "hear_make" ["self","name","act","word","kind","holder","spot"] 3 mE) λ_=>
  at2 (Yo Z.m_Tree.2.2.2.2.2.2.2.2.1 λ_ _ _ _ _ _ _ nd=>?_:f_ "Tree" A_Tree 1 "put" ["self","thing","holder","spot"] 4 sI) λ_=>
  at2 (Yo Z.m_Tree.2.2.2.2.1 λ_ _ _ _ _ _ _ nd=>?_:f_ "Tree" A_Tree 3 "hear_move" ["self","name","act","word","thing","holder","spot"] 3 mF) λ_=>
  at2 (Yo Z.m_Tree.2.2.1 λ_ _ _ _ _ _ _ nd=>?_:f_ "Tree" A_Tree 4 "hear" ["self","deed","name","seen","act"] 2 kE) λ_=>
  at2 (YS Z.m_Folding.2.2.2.2.2.2.1 λ_ _ _ _ _ _ _ nd=>?_:f_ "Folding" A_Folding 7 "hear_tree" ["self","deed","fate","act"] 2 iI) λ_=>
  at2 (δa Z.m_Count.2.2.2.1 λ_ _ _ _ _ _ _ nd=>?_:f_ "Count" A_Count 1 "hear" ["self","deed","act"] 2 nH) λ_=>
  at2 (dfM Z λ_ _ _ _ _ _ _ nd=>?_:p0 1 "covers" 3 ["seen","name","hand","n"] 2 hL) λ_=>
  at2 (γK Z.m_Choice.2.2.2.1 λ_ _ _ _ _ _ _ nd=>?_:f_ "Choice" A_Choice 2 "hear" ["self","deed","name","seen","act","unseen"] 2 kR) λ_=>
  at2 (εX Z.m_Bag.2.2.2.1 λ_ _ _ _ _ _ _ nd=>?_:f_ "Bag" A_Bag 2 "hear" ["self","deed","name","seen","act"] 2 sM) λ_=>
  at2 (YS Z.m_Folding.2.2.2.2.2.1 λ_ _ _ _ _ _ _ nd=>?_:f_ "Folding" A_Folding 8 "hear" ["self","deed","act"] 2 bL) λ_=>
  at2 (YZ Z.m_Desk.2.2.2.2.1 λ_ _ _ _ _ _ _ nd=>?_:f_ "Desk" A_Desk 9 "folded" ["self","deed"] 1 kW) λ_=>
  at2 (dfM Z λ_ _ _ _ _ _ _ nd=>?_:p0 1 "joined" 4 ["one","other","numbers","hand","n"] 2 DX) λ_=>
  at2 (dfM Z λ_ _ _ _ _ _ _ nd=>?_:p0 2 "widened" 5 ["seen","name"] 2 vM) λ_=>
  at2 (YZ Z.m_Desk.2.2.2.2.2.2.2.2.1 λ_ _ _ _ _ _ _ nd=>?_:f_ "Desk" A_Desk 3 "take_in" ["self","deed","name","seen","act"] 2 jH) λ_=>
  at2 (YZ Z.m_Desk.2.2.2.1 λ_ _ _ _ _ _ _ nd=>?_:f_ "Desk" A_Desk 10 "do" ["self","act","number","deed"] 2 vO) λ_=>
  at2 (YZ Z.m_Desk.2.2.2.2.2.2.2.1 λ_ _ _ _ _ _ _ nd=>?_:f_ "Desk" A_Desk 1 "seen" ["self"] 1 kF) λ_=>
  at2 (δa Z.m_Count.2.1 λ_ _ _ _ _ _ _ nd=>?_:f_ "Count" A_Count 1 "content" ["self"] 1 nY) λ_=>
  at2 (γK Z.m_Choice.2.1 λ_ _ _ _ _ _ _ nd=>?_:f_ "Choice" A_Choice 1 "content" ["self"] 1 mG) λ_=>
  at2 (εX Z.m_Bag.2.1 λ_ _ _ _ _ _ _ nd=>?_:f_ "Bag" A_Bag 1 "content" ["self"] 1 rC) λ_=>
  at2 (δb Z.m_Marks.2.2.2.1 λ_ _ _ _ _ _ _ nd=>?_:f_ "Marks" A_Marks 1 "rows" ["self"] 1 iN) λ_=>
  at2 (dfM Z λ_ _ _ _ _ _ _ nd=>?_:p0 1 "rank_of" 29 ["place"] 1 eR) λ_=>
  at2 (dfM Z λ_ _ _ _ _ _ _ nd=>?_:p0 2 "row_rank" 30 ["row"] 1 sP) λ_=>
  at2 (I_ Z.z_Signs Z.m_Signs.2.2.1 λ_ _ _ _ _ _ _ nd=>?_:f_ "Signs" A_Signs 5 "rows" ["self"] 1 fC) λ_=>
  at2 (εf Z.m_Text.2.1 λ_ _ _ _ _ _ _ nd=>?_:f_ "Text" A_Text 6 "content" ["self"] 1 pI) λ_=>
  at2 (YS Z.m_Folding.2.2.2.1 λ_ _ _ _ _ _ _ nd=>?_:f_ "Folding" A_Folding 7 "content_of" ["self","thing"] 2 dQ) λ_=>
  at2 (dfM Z λ_ _ _ _ _ _ _ nd=>?_:p0 1 "row_thing" 51 ["row"] 1 wU) λ_=>
  at2 (Yo Z.m_Tree.2.2.2.2.2.2.2.2.2.2.1 λ_ _ _ _ _ _ _ nd=>?_:f_ "Tree" A_Tree 4 "rows" ["self"] 1 pM) λ_=>
  at2 (Yo Z.m_Tree.2.2.2.2.2.2.2.1 λ_ _ _ _ _ _ _ nd=>?_:f_ "Tree" A_Tree 1 "lost" ["self"] 1 kG) λ_=>
  at2 (YS Z.m_Folding.2.2.1 λ_ _ _ _ _ _ _ nd=>?_:f_ "Folding" A_Folding 8 "base" ["self"] 1 jK) λ_=>
  at2 (YZ Z.m_Desk.2.2.2.2.2.2.1 λ_ _ _ _ _ _ _ nd=>?_:f_ "Desk" A_Desk 10 "now" ["self"] 1 sS) λ_=>
  at2 (dfM Z λ_ _ _ _ _ _ _ nd=>?_:p0 9 "fold" 55 ["base","deeds","folding","deed"] 2 Az) λ_=>
  at2 (YZ Z.m_Desk.2.1 λ_ _ _ _ _ _ _ nd=>?_:f_ "Desk" A_Desk 10 "base" ["self"] 1 pQ) λ_=>
  at2 (Yo Z.m_Tree.2.2.2.2.2.2.2.2.2.2.2.2.1 λ_ _ _ _ _ _ _ nd=>?_:f_ "Tree" A_Tree 2 "within" ["self","thing","spots"] 2 kZ) λ_=>
  at2 (YS Z.m_Folding.2.2.2.2.1 λ_ _ _ _ _ _ _ nd=>?_:f_ "Folding" A_Folding 3 "hanging" ["self","found","left","thing"] 1 fE) λ_=>
  at2 (δa Z.m_Count.2.2.2.2.1 λ_ _ _ _ _ _ _ nd=>?_:f_ "Count" A_Count 1 "told" ["self"] 1 uL) λ_=>
  at2 (dfM Z λ_ _ _ _ _ _ _ nd=>?_:p0 1 "numbers_of" 23 ["rows"] 1 iO) λ_=>
  at2 (γK Z.m_Choice.2.2.2.2.1 λ_ _ _ _ _ _ _ nd=>?_:f_ "Choice" A_Choice 2 "told" ["self"] 1 rE) λ_=>
  at2 (εX Z.m_Bag.2.2.2.2.1 λ_ _ _ _ _ _ _ nd=>?_:f_ "Bag" A_Bag 2 "told" ["self"] 1 AA) λ_=>
  at2 (dfM Z λ_ _ _ _ _ _ _ nd=>?_:p0 4 "numbered" 36 ["places","numbers","place"] 1 sV) λ_=>
  at2 (δb Z.m_Marks.2.1 λ_ _ _ _ _ _ _ nd=>?_:f_ "Marks" A_Marks 1 "ends" ["self","found","mark","first","last"] 1 nP) λ_=>
  at2 (δb Z.m_Marks.2.2.2.2.1 λ_ _ _ _ _ _ _ nd=>?_:f_ "Marks" A_Marks 5 "words_along" ["self","places","numbers","marks","mark","words","place","number"] 2 eC) λ_=>
  at2 (εf Z.m_Text.2.2.2.1 λ_ _ _ _ _ _ _ nd=>?_:f_ "Text" A_Text 6 "places" ["self"] 1 rG) λ_=>
  at2 (εf Z.m_Text.2.2.2.2.1 λ_ _ _ _ _ _ _ nd=>?_:f_ "Text" A_Text 7 "told" ["self","words"] 1 pV) λ_=>
  at2 (YS Z.m_Folding.2.2.2.2.2.2.2.1 λ_ _ _ _ _ _ _ nd=>?_:f_ "Folding" A_Folding 8 "telling" ["self","thing","tellings","kind"] 3 fG) λ_=>
  at2 (YS Z.m_Folding.2.2.2.2.2.2.2.2.1 λ_ _ _ _ _ _ _ nd=>?_:f_ "Folding" A_Folding 9 "told" ["self","tellings","thing"] 1 jM) λ_=>
  at2 (YZ Z.m_Desk.2.2.2.2.2.2.2.2.2.1 λ_ _ _ _ _ _ _ nd=>?_:f_ "Desk" A_Desk 10 "told" ["self"] 1 pY) λ_=>
  at2 (dfM Z λ_ _ _ _ _ _ _ nd=>?_:p0 10 "told" 56 ["base"] 1 CC) λ_=>
  at2 (YZ Z.m_Desk.2.2.2.2.2.2.2.2.2.2.1 λ_ _ _ _ _ _ _ nd=>?_:f_ "Desk" A_Desk 1 "waiting" ["self"] 1 fH) λ_=>
  at2 (YZ Z.m_Desk.2.2.1 λ_ _ _ _ _ _ _ nd=>?_:f_ "Desk" A_Desk 1 "bound" ["self"] 1 iP) λ_=>
  at2 (mkJ Z Z.z_Desk Z.m_Desk.1 λ_ _ _ _ _ _ _ nd=>?_:δv "Desk" A_Desk 1 ["self","hand","hands"] 3 gD) λ_=>
  at2 (dfM Z λ_ _ _ _ _ _ _ nd=>?_:p0 3 "_law_refused" 76 ["_law_hands_here","_law_stranger","_law_refused_here","e"] 1 qM) λ_=>
  dfM Z λ_ _ _ _ _ _ _ nd=>?_
 all_goals
  (conv=>arg 4;whnf)
  first|unfold fZ|unfold vH|unfold Al|unfold Cv|unfold Cy|unfold iA|unfold KC|unfold mY|unfold oW|unfold jC|unfold kN|unfold mZ|unfold oX|unfold nB|unfold gY|unfold iC|unfold nC|unfold rA|unfold An|unfold nD|unfold nE|unfold oZ|unfold pA|unfold fR|unfold jZ|unfold pC|unfold lY|unfold mB|unfold iE|unfold vI|unfold cZ|unfold eO|unfold xS|unfold FB|unfold rZ|unfold vK|unfold Ap|unfold sD|unfold pF|unfold sF|unfold sG|unfold fU|unfold sH|unfold fV|unfold gZ|unfold cN|unfold nG|unfold Au|unfold kQ|unfold sL|unfold cS|unfold kU|unfold Av|unfold vL|unfold jG|unfold vN|unfold pH|unfold iG|unfold fW|unfold kX|unfold nK|unfold vP|unfold Aw|unfold nL|unfold jI|unfold dO|unfold pJ|unfold pL|unfold pO|unfold jJ|unfold sQ|unfold FD|unfold pP|unfold kY|unfold fD|unfold nM|unfold nN|unfold lD|unfold sT|unfold sU|unfold nO|unfold dZ|unfold lG|unfold pU|unfold fF|unfold jL|unfold pW|unfold FF|unfold jN|unfold nR|unfold vQ|unfold KF
  repeat' first|(specialize SSs _ _ _ _ bN;show Qz)|(specialize SSs _ _ _ [_] _;refine PN ?_)|(specialize R_ (Af _ _);refine Ko Z.xn Z.mgN ?_)|(specialize R_ (uB _ _ _ _ _ _ _);refine anE (by assumption) λc r=>anE r λm r=>anE r λg r=>anE r λq b=>QA nd c m g b q (λ_=>?_) Z.xmM Z.mgM (λ_ _=>rfl)<|λea E=>QZ Z rfl nd ea E)|(specialize p_ (eG _ 0 _ aC);refine anE (by assumption) λc r=>anE r λm r=>anE r λg r=>anE r λq b=>Nd c m g q b)|(specialize p_ (jB _ Bool.false _);refine anE (by assumption) λD G=>NF D G ?_ (hb:=mbL))|(specialize R_ (aT _<|iZ _ _);refine Nt _ ?_)|(specialize R_ (aT _<|bK _ _ _ _ _);refine V0 nd rfl rfl rfl rfl (by rfl) (by rfl) ?_ λ_ _ _ _ nd=>⟨?_,?_,?_⟩)|(specialize p_ (aH _ 0 _ _ aC);refine Nc ?_ ?_)|(specialize p_ (mV _);refine RN _)|(specialize SA _ _ _ _ (aA _ _);refine zE ?_ ?_)|(specialize SA _ _ _ _ aC;show Gk)|(specialize SSs _ _ _ _ (aF _ _);refine MR ?_ ?_)|(specialize p_ (mC<|PV.int _);show RP)|(specialize p_ (o_ _ _);refine UQ ?_ ?_)|(specialize R_ (aQ _);refine Sj ?_)|(specialize SG _ _ _ _ (gN _);refine PJ nd)|(specialize p_ (mUn (aK _) _);refine SY (fdL Z) ?_)|(specialize p_ (mC<|PV.str _);show wH)|(specialize ST _ _ _ _ (aN<|aB _ _ _);refine S3 ?_ ?_ ?_)|(specialize SE _ _ _ (.BinOp _ _ _ _) (aB _ _ _);refine RR ?_ ?_ ?_)|(specialize SGs _ _ _ _ (gCn _ _);refine PK ?_ ?_)|(specialize R_ (aT _ _);refine Sg nd ?_)|(specialize R_ (bE _ _ _);refine UB ?_ ?_ ?_)|(specialize p_ (aX _);refine S' ?_)|(specialize SSs _ _ _ _ bP;show PL)|(specialize p_ (aH _ _ _ _ _);refine Qk ?_ ?_ ?_)|(specialize p_ (bD _ _ _);refine anE (by assumption) λD G=>s_call D G ?_)|(specialize R_ (bG _ _ _);refine SZ (fdL Z) ?_ ?_)|(specialize S1 bU;show Ta)|(specialize βF (bB _);refine Sk ?_)|(specialize S1 aU;show Q4)|(specialize p_ (cK _);refine Gm ?_)|(specialize R_ (dY _);refine Si ?_)|(specialize SG _ _ _ _ (gTp _ _);refine Se ?_)|(specialize SGs _ _ _ _ gNl;show Sd)|(specialize S1 dS;show RY)|(specialize p_ (bK _ _ _ _ _);refine UZ rfl rfl (by rfl) (by rfl) ?_ λ_ _ _ _ nd=>⟨?_,?_,?_⟩)|(specialize R_ (gP _ _ _);refine Sl ?_ ?_ ?_)|(specialize STs _ _ _ _ dU;show PR)|(specialize SO _ _ _ _ (mP _);refine PD ?_)|(specialize p_ dI;show MN)|(specialize p_ (mSl _ _ _);refine Uz ?_ ?_ ?_)|(specialize p_ (β2 _);refine tR Nf PyProof.Rows.Boot.«list» ?_ (hb:=mbL))|(specialize p_ (mC PV.non);show RQ)|(specialize R_ (qR _ _);refine Sh ?_ ?_)|(specialize SO _ _ _ _ kM;show PC)|(specialize ST _ _ _ (.BoolOp _ _ _) _;refine SW.t ?_)|(specialize R_ (iY _ _ _);refine Qm ?_ ?_ ?_)|(specialize p_ (γG _);refine qH Sa PyProof.Rows.Boot.«len» ?_ (hb:=mbL))|(specialize S1 cI;show QD)|(specialize S1 hZ;show Tc)|(specialize SW _ _ _ _ (oC _ _);refine w_or ?_ ?_)|(specialize S1 xE;show RU)|(specialize SW _ _ _ _ (qV _ _);refine w_and ?_ ?_)|(specialize SW _ _ _ (.BoolOp _ [_] _) _;refine Pz ?_)|(specialize S1 aW;show IE)|(specialize p_ (mIf _ _ _);refine MM ?_ ?_ ?_)|(specialize SW _ _ _ (.BoolOp _ [_] _) _;refine S5 ?_)|(specialize SE _ _ _ (.Compare _ _ _ _) (aB _ _ _);refine RS ?_ ?_ ?_)|(specialize ST _ _ _ _ (qU _);refine S4 ?_)|(specialize STs _ _ _ [_] _;refine PU ?_)|(specialize S1 rT;show SX)|(specialize S1 B3;show RW)|(specialize p_ (δ4 (onL eW) _ _);refine Sm W3 PySem.F.slot_list_append PySem.F.type_list_append JI ?_ ?_)|(specialize S1 vGt;show Uv)|(specialize p_ (eG _ _ _ _);refine anE (by assumption) λc r=>anE r λm r=>anE r λg r=>anE r λq b=>Ql c m g q b ?_)|(specialize p_ (βO _);refine Ov WZ PySem.F.slot_dict_items PySem.F.type_dict_items K9 ?_)|(specialize βF (tU _);refine PQ ?_ (hb:=mbL))|(specialize S1 F9;show RX)|(specialize p_ (oU _);refine anE (by assumption) λD G=>Nw D G)|(specialize p_ (mC<|.tup _);refine Qo Z.MG_ROOT Z.GT_ROOT)|(specialize S1 iV;show ML)|(specialize p_ (mCB B5 _);refine qH Ce PyProof.Rows.Boot.«isinstance» ?_ (hb:=mbL))|(specialize p_ (hV isL (onL iW) _);refine Oq W3 PySem.F.slot_list_clear PySem.F.type_list_clear MU ?_)|(specialize S1 Fb;show RZ)|(specialize S1 vIs;show Ux)|(specialize p_ (mC<|PV.ty "str");refine Jx PyProof.Rows.Boot.«str» (hb:=mbL))|(specialize R_ (vA _ _ _);refine MT ?_ ?_)|(specialize p_ (mCB oI _);refine tR MP PyProof.Rows.Boot.«tuple» ?_ (hb:=mbL))|(specialize p_ (hV cE zX _);refine Ov WZ PySem.F.slot_dict_values PySem.F.type_dict_values m_values ?_)|(specialize p_ (mCB wL _);refine tR Q9 PyProof.Rows.Boot.«dict» ?_ (hb:=mbL))|(specialize p_ (δ5 _ _);refine SR WZ Wu PySem.F.type_dict_get Qh ?_ ?_)|(specialize p_ (mCB cG _);refine qH BL PyProof.Rows.Boot.«sorted» ?_ (hb:=mbL))|(specialize βF (oT _);refine Nq ⟨_,_,_,rfl⟩ ?_)|(specialize SE _ _ _ (.BoolOp _ [_] _) _;refine S6 ?_)|(specialize S1 vLt;show Uu)|(specialize p_ (mMt Nh Ab _ _);refine SR PySem.F.plainAttrs_str PySem.F.slot_str_join PySem.F.type_str_join Qn ?_ ?_)|(specialize p_ (rX _ _);refine Ny<|Fy wH (Gm<|zE wH Gk)<|Fy wH (Gm<|zE wH Gk)<|Fy wH (Gm<|zE wH<|zE wH Gk) T6)|(specialize p_ (mUn (vGd _) _);refine Nx Z.MG_KIND_FOR Z.GT_KIND_FOR ?_)|(specialize p_ (mCB Ae _);refine tR Nz PyProof.Rows.Boot.«dict» ?_ (hb:=mbL))|(specialize p_ (mCB Il _);refine qH SQ PyProof.Rows.Boot.«sum» ?_ (hb:=mbL))|(specialize p_ (jB _ _ _);refine anE (by assumption) λD G=>Kx D G ?_ (hb:=mbL))|(specialize R_ MQ;show Sf)|(specialize R_ (GC _ _ _);refine K5 (fdL Z) ?_ ?_)|(specialize S1 vLe;show Uw)|(specialize p_ (mCB JF _);refine qH Sb PyProof.Rows.Boot.«max» ?_ (hb:=mbL))|(specialize p_ (mCB cG _);refine qH BL PyProof.Rows.Boot.«sorted» ?_ (hb:=mbL))|(specialize p_ (hV isL (onL Fe) _);refine Oq W3 PySem.F.slot_list_pop PySem.F.type_list_pop Sn ?_)|(specialize p_ (δ4 mX _ _);refine Sm W3 PySem.F.slot_list_extend PySem.F.type_list_extend Kg ?_ ?_)|(specialize p_ (mUn lQ _);refine Iw ?_ mbL mbL)|(specialize βF (KB _);refine NG ?_ (hb:=mbL))|(specialize βF (Kf _);refine T4 ?_ (hb:=mbL))|(specialize p_ (rV _ _);refine Nj ?_ ?_)|(specialize p_ (mUn _ _);refine Ut ?_ ?_)|(specialize UnS _ _ _ _ MK;show Sq)|(specialize p_ (mC<|PV.ty "bool");refine Jx PyProof.Rows.Boot.«bool» (hb:=mbL))|(specialize p_ (Bu _ _);refine S7 ?_ ?_)|(specialize p_ (Ig _ _);refine Uy ?_ ?_)|(specialize ST _ _ _ _ (aN _);refine S0 ?_)|(specialize p_ (iZ _ _);refine Nr _ ?_)|(specialize R_ bN;show T7)|(specialize Cn _ _ _ _ _ _;refine mtN (by assumption) (by decide) ?_)|(specialize Cn _ _ _ _ _ _;show Qj)|unfold rY|unfold qZ|unfold kO|unfold cJ|unfold nF|unfold sA|unfold sJ|unfold iF|unfold sN|unfold Ay|unfold cO|unfold uM|unfold pR|unfold fK|unfold fM|unfold fY|unfold xU
end
abbrev spL(K:vj):Sp:=λvs H Q _=>∃(a:h_)(ns:YV 0),vs=[.ref a]/\Jc H/\Yu a (ZF 0)/\ns.l<=63/\∀H',Q (.bl true) H'
def all_mk{l:PySem.W.OpenLaw}{w:j2}{K:vj}{h:jo}{mg:d9 0}{fa A_Count A_Choice A_Bag A_Marks A_Signs A_Text A_Tree A_Folding A_Desk dB qE A_NoHand A_MeetError A_NoThing:h_}(X:K.In h)(G:h.Ns y8 mg)(rn:mg "law" = a_ fa)(hbn:∀x∈bsL,mg x=a9)
  (ds:DsL K dL)
  (ao:ClX K A_Count "Count" fL)
  (m_Count:MsL K A_Count Hf)
  (ag:ClX K A_Choice "Choice" fL)
  (m_Choice:MsL K A_Choice Et)
  (bg:ClX K A_Bag "Bag" fL)
  (m_Bag:MsL K A_Bag OJ)
  (ak:ClX K A_Marks "Marks" fL)
  (m_Marks:MsL K A_Marks Hg)
  (ai:ClX K A_Signs "Signs" fL)
  (m_Signs:MsL K A_Signs Hh)
  (aw:ClX K A_Text "Text" fL)
  (m_Text:MsL K A_Text LP)
  (av:ClX K A_Tree "Tree" fL)
  (m_Tree:MsL K A_Tree LQ)
  (af:ClX K A_Folding "Folding" fL)
  (m_Folding:MsL K A_Folding BW)
  (ax:ClX K A_Desk "Desk" fL)
  (m_Desk:MsL K A_Desk LU)
  {ah:ε8 0} {ay:Nat} (G3:β8 "KIND_FOR" = a8 (a_ dB)) (bw:K.lookup dB=a8 ⟨.type "dict",a9,.dict ah ay,#[]⟩) (bz:GEs w.params [("add","count"),("choose","choice"),("put","bag"),("take","bag"),("write","text"),("cut","text"),("mark","text"),("clear","text")] ah.toList) (cb:(dB == zx)=false)
  {au:K_ 0} {cj:Nat} {dr:d8 0} (R0:β8 "ROOT" = a8 (a_ qE)) (gj:K.lookup qE=a8 ⟨.type "tuple",a9,.seq au cj,dr⟩) (f':aO [.str "",.int<|0] au.toList) (gf:au.size<=wa)
  {jt xq:Str} {xN:h_} {j4:YX 0} {k9:S2 0} {fu:YX 0} {jy:Bool} {fj:β9 0} {kz rj:l7 h_} {jz km kh ji j1:l7 gV} {pj:d8 0} {vd:ClassData}
  (dj:β8 "NoHand" = a8 (a_ A_NoHand))
  (bu:β8 "MeetError" = a8 (a_ A_MeetError))
  (cq:β8 "NoThing" = a8 (a_ A_NoThing))
  (qy:β8 "ValueError" = a8 a9)
  (qk:Vi K (.ref A_NoHand)=true)
  (tm:K.lookup A_MeetError=a8 ⟨.type "type",rj,.cls vd,pj⟩)
  (qb:W0 K (.ref A_MeetError) (.type "BaseException")=a8 true)
  (ui:W0 K (.ref A_NoHand) (.ref A_MeetError)=a8 true)
  (xo:K.lookup A_NoHand=a8 (excClassObj jt xq A_NoHand xN j4 (.ref A_MeetError::bmV) true k9 fu jy fj kz jz km kh ji j1 "ValueError.__new__"))
  (uh:yh K (.ref A_NoHand) "__getattribute__" = a8 (a8<|.builtin "BaseException.__getattribute__"))
  (p9:yh K (.ref A_NoHand) "__getattr__" = a8 a9)
  (uz:yh K (.ref A_NoHand) "__class__" = a8 (a8<|.builtin "object.__class__"))
  (uf:PySem.W.specialIn K (.builtin "object.__class__") "__get__" = a8 (a8<|.builtin "getset_descriptor.__get__"))
  (vb:PySem.W.takesIn K (.builtin "object.__class__")=a8 true)
  (xv:W0 K (.ref A_NoHand) (.type "ValueError")=a8 true)
  (xa:PySem.W.isClsIn K A_NoThing=true) (xb:δg (.ref A_NoThing)=a8 (.type "type")) (xs:W0 K (.ref A_NoHand) (.ref A_NoThing)=γL 0)
  (qz:PySem.W.nsOkIn K xN=true) (ph:VS K xN "__init__" = a8 a9)
  (xt:PySem.W.tailIn K bmV (.ref A_MeetError::bmV)=true) (xd:(yg A_NoHand == yg A_NoThing)=false)
  : ∃fd:zy,(∀(s:g_)(v:gV),βr ⟨[v],[]⟩ [("_law_script",v)])/\∀base:jo,K.In base->εN mg->cX l.prog w K mg base CX0 11 fa fd ["_law_script"] (spL K):=by
 let Z:∀b,ZZ l.prog b w K mg (clF A_Count A_Choice A_Bag A_Marks A_Signs A_Text A_Tree A_Folding A_Desk) A_Count A_Choice A_Bag A_Marks A_Signs A_Text A_Tree A_Folding A_Desk dB qE A_NoHand A_MeetError A_NoThing:=λ_=>⟨hbn,⟨_,X,G⟩,ds,⟨(if_pos rfl),ao.cls9,Z6 ao.n,ao.mx,ao.kc⟩,m_Count,⟨((if_neg<|by decide).trans<|if_pos rfl),ag.cls9,Z6 ag.n,ag.mx,ag.kc⟩,m_Choice,⟨((if_neg<|by decide).trans<|(if_neg<|by decide).trans<|if_pos rfl),bg.cls9,Z6 bg.n,bg.mx,bg.kc⟩,m_Bag,⟨((if_neg<|by decide).trans<|(if_neg<|by decide).trans<|(if_neg<|by decide).trans<|if_pos rfl),ak.cls9,Z6 ak.n,ak.mx,ak.kc⟩,m_Marks,⟨((if_neg<|by decide).trans<|(if_neg<|by decide).trans<|(if_neg<|by decide).trans<|(if_neg<|by decide).trans<|if_pos rfl),ai.cls9,Z6 ai.n,ai.mx,ai.kc⟩,m_Signs,⟨((if_neg<|by decide).trans<|(if_neg<|by decide).trans<|(if_neg<|by decide).trans<|(if_neg<|by decide).trans<|(if_neg<|by decide).trans<|if_pos rfl),aw.cls9,Z6 aw.n,aw.mx,aw.kc⟩,m_Text,⟨((if_neg<|by decide).trans<|(if_neg<|by decide).trans<|(if_neg<|by decide).trans<|(if_neg<|by decide).trans<|(if_neg<|by decide).trans<|(if_neg<|by decide).trans<|if_pos rfl),av.cls9,Z6 av.n,av.mx,av.kc⟩,m_Tree,⟨((if_neg<|by decide).trans<|(if_neg<|by decide).trans<|(if_neg<|by decide).trans<|(if_neg<|by decide).trans<|(if_neg<|by decide).trans<|(if_neg<|by decide).trans<|(if_neg<|by decide).trans<|if_pos rfl),af.cls9,Z6 af.n,af.mx,af.kc⟩,m_Folding,⟨((if_neg<|by decide).trans<|(if_neg<|by decide).trans<|(if_neg<|by decide).trans<|(if_neg<|by decide).trans<|(if_neg<|by decide).trans<|(if_neg<|by decide).trans<|(if_neg<|by decide).trans<|(if_neg<|by decide).trans<|if_pos rfl),ax.cls9,Z6 ax.n,ax.mx,ax.kc⟩,m_Desk,Z6 G3,⟨cb,by decide,ah,ay,bw,bz⟩,Z6 R0,⟨_,au,cj,[.str "",.int<|0],gj,rfl,rfl,gf,f',rfl,rfl⟩,λf i c a hc=>clI (p:=λa=>Cls K a/\kI K a f) hc ⟨ao.cls9,ao.nf.at i⟩ ⟨ag.cls9,ag.nf.at i⟩ ⟨bg.cls9,bg.nf.at i⟩ ⟨ak.cls9,ak.nf.at i⟩ ⟨ai.cls9,ai.nf.at i⟩ ⟨aw.cls9,aw.nf.at i⟩ ⟨av.cls9,av.nf.at i⟩ ⟨af.cls9,af.nf.at i⟩ ⟨ax.cls9,ax.nf.at i⟩,⟨⟨.ref A_MeetError::bmV,xN,jt,xq,j4,true,k9,fu,jy,fj,kz,jz,km,kh,ji,j1,xo,qz,ph,xt⟩,qk⟩,Z6 dj,⟨⟨jt,xq,xN,j4,A_MeetError,k9,fu,jy,fj,kz,jz,km,kh,ji,j1,xo,xt⟩,uh,p9⟩,⟨uz,uf,vb⟩,⟨⟨_,_,_,tm⟩,qb,ui⟩,Z6 bu,PySem.W.mg_none_of X G qy,Qx xv,Z6 cq,Qw xd xa xb xs⟩;let(f,a,oc,kV,doc,pm,cdv,ct,od,an,osl,l',c,k):=(Z h).ds.at (x:="law") (i:=77) (by decide +kernel);cases rn.symm.trans (Z6 a)
 show(_,λs v=>.of_eq (fd:=Vu "law" "law" (eI<|top 77) (bV<|top 77) (aM<|top 77) .none kV doc pm an cdv ct) rfl,λbase _ _=>?_);let(_,F):=TH<|Z base;let q:fA K "law" = fa:=by rw[fA,a]
 rw[q,dA,l']at F;show F.imp λvs H Q E hh=>?_;let(a,ns,rfl,hO,hS,hl,hq):=hh;show PZ (C:=cC w K<|clF A_Count A_Choice A_Bag A_Marks A_Signs A_Text A_Tree A_Folding A_Desk) hO hS (main ns hl) hq
def walk{l:PySem.W.OpenLaw}{q:j3}{loose:S2 0}{XP:(d9 0)->jo->Prop}{YP:j2->jo->Prop}{d:DefRec}{K:Params->vj}(hn:l.most=a8 63)(ig:d.params.defaults=[])
  (hY:∀(w:j2)(h:jo),YP w h->(αT 0).In h)
  (F:∀(w:j2)(mg:d9 0)(fa:h_)(h:jo),(αT 0).In h->h.Ns y8 mg->mg d.name=a_ fa->
   ∃fd:zy,(∀(s:g_)(u:gV),βr ⟨[u],[]⟩ [("_law_script",u)])/\∀base:jo,(αT 0).In base->εN mg->cX l.prog w (αT 0) mg base CX0 11 fa fd ["_law_script"] (spL (αT 0))):
  βc [] (λf vs=>PySem.call f vs):=
 _L.walk_of (n:=63) (k:=11) (x:="_law_script") (CX:=λ_=>CX0) (sp:=λw=>spL<|K w.params) hn (by decide) ig ⟨rfl,by decide,by decide,rfl⟩ hY F (λw H a ns hl hO hS=>⟨a,ns,rfl,hO,hS,hl,λ_=>rfl⟩) λ_ _ _ _ _ z=>z
end _K
open PySem PySem.W PyProof.Rows
end
set_option maxRecDepth 100000 in
set_option maxHeartbeats 0 in
theorem PySem.Challenge.cw_copymeet_k81_deeds_done_holds : PySem.Challenge.rw_copymeet_k81_deeds_done.Holds := by
 refine _h ?_
 k_fill
 refine _K.walk (l:=PySem.Challenge.rw_copymeet_k81_deeds_done) rfl rfl (fun w h Y=>PySem.W.kIn_of Y) ?F
 case F=>
  intro w mg fa h KX G hmg
  have hbn:∀ x∈_K.bsL,mg x=none:=fun x hx=>by
   iterate 14 (rcases List.mem_cons.mp hx with rfl | hx; · exact PySem.W.mg_none_of KX G (by k_is))
   cases hx
  refine' _K.all_mk KX G hmg hbn ?h0 ?h1 ?h2 ?h3 ?h4 ?h5 ?h6 ?h7 ?h8 ?h9 ?h10 ?h11 ?h12 ?h13 ?h14 ?h15 ?h16 ?h17 ?h18 ?h19 ?h20 ?h21 ?h22 ?h23 ?h24 ?h25 ?h26 ?h27 ?h28 ?h29 ?h30 ?h31 ?h32 ?h33 ?h34 ?h35 ?h36 ?h37 ?h38 ?h39 ?h40 ?h41 ?h42 ?h43 ?h44 ?h45 ?h46 ?h47 ?h48
  (case h0=>repeat' first | exact trivial | refine ⟨⟨_,by k_is,_,_,_,_,_,_,_,_,_,by k_is,by k_is,by k_is⟩,?_⟩)
  (case h1=>exact ⟨by k_is,by k_is,by k_is,by k_is,by k_is,by k_is,by k_is,by k_is,by k_is,by k_is,by k_is,by k_is,by k_is,by k_is,by k_is,by k_is,by k_is,by k_is,by k_is,by k_is,by k_is,by k_is,by k_is,by k_is,by k_is,trivial⟩)
  (case h2=>repeat' first | exact trivial | refine ⟨⟨_,by k_is,by k_is,_,_,_,_,_,_,_,_,_,by k_is,by k_is,by k_is⟩,?_⟩)
  (case h3=>exact ⟨by k_is,by k_is,by k_is,by k_is,by k_is,by k_is,by k_is,by k_is,by k_is,by k_is,by k_is,by k_is,by k_is,by k_is,by k_is,by k_is,by k_is,by k_is,by k_is,by k_is,by k_is,by k_is,by k_is,by k_is,by k_is,trivial⟩)
  (case h4=>repeat' first | exact trivial | refine ⟨⟨_,by k_is,by k_is,_,_,_,_,_,_,_,_,_,by k_is,by k_is,by k_is⟩,?_⟩)
  (case h5=>exact ⟨by k_is,by k_is,by k_is,by k_is,by k_is,by k_is,by k_is,by k_is,by k_is,by k_is,by k_is,by k_is,by k_is,by k_is,by k_is,by k_is,by k_is,by k_is,by k_is,by k_is,by k_is,by k_is,by k_is,by k_is,by k_is,trivial⟩)
  (case h6=>repeat' first | exact trivial | refine ⟨⟨_,by k_is,by k_is,_,_,_,_,_,_,_,_,_,by k_is,by k_is,by k_is⟩,?_⟩)
  (case h7=>exact ⟨by k_is,by k_is,by k_is,by k_is,by k_is,by k_is,by k_is,by k_is,by k_is,by k_is,by k_is,by k_is,by k_is,by k_is,by k_is,by k_is,by k_is,by k_is,by k_is,by k_is,by k_is,by k_is,by k_is,by k_is,by k_is,trivial⟩)
  (case h8=>repeat' first | exact trivial | refine ⟨⟨_,by k_is,by k_is,_,_,_,_,_,_,_,_,_,by k_is,by k_is,by k_is⟩,?_⟩)
  (case h9=>exact ⟨by k_is,by k_is,by k_is,by k_is,by k_is,by k_is,by k_is,by k_is,by k_is,by k_is,by k_is,by k_is,by k_is,by k_is,by k_is,by k_is,by k_is,by k_is,by k_is,by k_is,by k_is,by k_is,by k_is,by k_is,by k_is,trivial⟩)
  (case h10=>repeat' first | exact trivial | refine ⟨⟨_,by k_is,by k_is,_,_,_,_,_,_,_,_,_,by k_is,by k_is,by k_is⟩,?_⟩)
  (case h11=>exact ⟨by k_is,by k_is,by k_is,by k_is,by k_is,by k_is,by k_is,by k_is,by k_is,by k_is,by k_is,by k_is,by k_is,by k_is,by k_is,by k_is,by k_is,by k_is,by k_is,by k_is,by k_is,by k_is,by k_is,by k_is,by k_is,trivial⟩)
  (case h12=>repeat' first | exact trivial | refine ⟨⟨_,by k_is,by k_is,_,_,_,_,_,_,_,_,_,by k_is,by k_is,by k_is⟩,?_⟩)
  (case h13=>exact ⟨by k_is,by k_is,by k_is,by k_is,by k_is,by k_is,by k_is,by k_is,by k_is,by k_is,by k_is,by k_is,by k_is,by k_is,by k_is,by k_is,by k_is,by k_is,by k_is,by k_is,by k_is,by k_is,by k_is,by k_is,by k_is,trivial⟩)
  (case h14=>repeat' first | exact trivial | refine ⟨⟨_,by k_is,by k_is,_,_,_,_,_,_,_,_,_,by k_is,by k_is,by k_is⟩,?_⟩)
  (case h15=>exact ⟨by k_is,by k_is,by k_is,by k_is,by k_is,by k_is,by k_is,by k_is,by k_is,by k_is,by k_is,by k_is,by k_is,by k_is,by k_is,by k_is,by k_is,by k_is,by k_is,by k_is,by k_is,by k_is,by k_is,by k_is,by k_is,trivial⟩)
  (case h16=>repeat' first | exact trivial | refine ⟨⟨_,by k_is,by k_is,_,_,_,_,_,_,_,_,_,by k_is,by k_is,by k_is⟩,?_⟩)
  (case h17=>exact ⟨by k_is,by k_is,by k_is,by k_is,by k_is,by k_is,by k_is,by k_is,by k_is,by k_is,by k_is,by k_is,by k_is,by k_is,by k_is,by k_is,by k_is,by k_is,by k_is,by k_is,by k_is,by k_is,by k_is,by k_is,by k_is,trivial⟩)
  (case h18=>repeat' first | exact trivial | refine ⟨⟨_,by k_is,by k_is,_,_,_,_,_,_,_,_,_,by k_is,by k_is,by k_is⟩,?_⟩)
  case h19|h20|h23|h24=>k_is
  (case h21=>exact ⟨rfl,⟨_,rfl⟩,⟨_,rfl⟩,rfl,⟨_,rfl⟩,⟨_,rfl⟩,rfl,⟨_,rfl⟩,⟨_,rfl⟩,rfl,⟨_,rfl⟩,⟨_,rfl⟩,rfl,⟨_,rfl⟩,⟨_,rfl⟩,rfl,⟨_,rfl⟩,⟨_,rfl⟩,rfl,⟨_,rfl⟩,⟨_,rfl⟩,rfl,⟨_,rfl⟩,⟨_,rfl⟩,trivial⟩)
  (case h22=>decide +kernel)
  (case h25=>exact (.cons ⟨_,rfl⟩ (.cons ⟨_,rfl⟩ .nil)))
  (case h26=>decide +kernel)
  case h27|h28|h29|h30|h31|h32|h33|h34|h35|h36|h37|h38|h39|h40|h41|h42|h43|h44=>k_is
  (case h45=>kernel_rfl)
  (case h46=>k_is)
  (case h47=>kernel_rfl)
  (case h48=>decide)
