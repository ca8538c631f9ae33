/-
  OUR OWN TEXT. Dp3, Mr10, Mr11, Mr11b, Mr12, Mr13, Wn1, LawFx, one behind the other.
-/
import Derived.Test.YtjjjagepnnbebaaGreatDoorKaq
import Derived.Test.YtjjjagepnnbebaaGreatDoorKbr
import Derived.Test.YtjjjagepnnbebaaGreatDoorKau
import Derived.Test.YtjjjagepnnbebaaGreatDoorL2ym
import Derived.Test.YtjjjagepnnbebaaGreatDoorKbq
import Derived.Deep.CutBlock
import Derived.Deep.DeepCutAuto
import Derived.Test.YtjjjagepnnbebaaGreatDoorKbi
import Derived.Test.YtjjjagepnnbebaaGreatDoorKbl
import Derived.Test.YtjjjagepnnbebaaGreatDoorKbs
import Derived.Test.YtjjjagepnnbebaaGreatDoorKbh
import Derived.Test.YtjjjagepnnbebaaGreatDoorKam
import Derived.Test.YtjjjagepnnbebaaGreatDoorKao
import Derived.Test.YtjjjagepnnbebaaGreatDoorKal
import Derived.Test.YtjjjagepnnbebaaGreatDoorKar
import Derived.Test.YtjjjagepnnbebaaGreatDoorHwm
set_option maxHeartbeats 6400000
set_option maxRecDepth 100000
namespace Go.Proofs.YtjjjagepnnbebaaGreatDoor
open Go.RowKit
attribute [local go_sem ↓] Go.wp_at_zero Go.wp_at_succ
theorem BOwn.base{w:World}{b E:Nat}{v:Value}{l:Bs}(h:BOwn w b v l)(hb:E<=b):BOwn w E v l:=by
 obtain ⟨g,cap,cur,fz,e,h1,h2⟩:=h;exact ⟨g,cap,cur,fz,e,Nat.le_trans hb h1,h2⟩
theorem zj7(x:Bs)(y:ByteArray)(z:Bs)(h:y=mkS z):mkS x ++ y=mkS (x ++ z):=by rw[h,zaV]
def DpP(w:World)(l:Bs)(e:Ending)(w':World):Prop:=∃ v,e=.returned v/\TxA w' w.heap.size v l/\Below w.heap.size w w'
theorem ziI(B:Bs)(a:Option Addr)(c:Nat)(w:World)(h:zbZ w a B)(hn:B.length<=1048576):Calls Tryz.prog 11 #[.slice a B.length c] w (DpP w (dpF B)):=by
 have HB:=hidR h;clear h;have HA:=zHA w;have RD:=hidR (zqW (c:=c) HB.out hn (g:=w.heap.size) rfl);go_enter Tryz.func11,Tryz.ntmps11;go_wp2_with fail
 refine (zbQ w.heap.size B _ RD.out).mono ?_;rintro e w1 ⟨n1,aP,rfl,ag,E⟩;have R1:=hidR ag.2;have B1:=hidR (show Below w.heap.size w w1 from (HA.out _).trans (ag.1.below (by simp) (fun g hg=>by injection hg with hg;omega)));have ad:w.heap.size<w1.heap.size:=ag.2.lt;clear ag HA RD HB;by_cases h5:n1=255
 ·have HD:=hidR (show dpF B=ziV (19+nxc B.tail % 3) from if_pos (by rw[E.out];exact h5));subst h5;go_wp2_with fail
  refine (zbQ w.heap.size _ w1 R1.out).mono ?_;rintro e w2 ⟨n2,aO,rfl,I,aH⟩;have B2:=hidR (B1.out.trans (I.1.below (Nat.le_of_lt ad) (fun g hg=>by injection hg with hg;omega)));have aJ:=I.1.rest.size;obtain ⟨k,hk⟩:∃ k,k=19+n2 % 3:=⟨_,rfl⟩
  have HE:=hidR (show dpF B=ziV k from by rw[HD.out,aH.out,hk]);clear I R1 B1 HD E aH;have HK:=hidR (show 19+(n2:Int) % 3=(k:Int) from by omega);have aL:k<=1000:=by omega
  have aG:=zgA k;clear hk;go_wp2_with fail
  rw[HK.out];refine (zl7 k w2 aL).mono ?_;rintro e w3 ⟨rfl,G⟩;have Z:(ziV k).length<=1000000:=by
   unfold ziV;rw[List.length_append,List.length_append,aG];have:zlr.length=27:=rfl;simp only[List.length_cons,List.length_nil];omega
  clear aG;generalize ziV k=L at Z HE;have aI:=G.size;have O:=Lib.run_convert_string_bytes w3 9 22 5 (mkS L) Tryz.underlying9 Tryz.underlying22 Tryz.underlying5;rw[zad]at O;have B3:=hidR (B2.out.trans ((G.trans ((Lib.bytesWorld_below w3 5 (mkS L)).mono aI)).mono B2.out.size));have HO:=hidR ((ziN w3 (w.heap.size+1) L (by omega) Z).txa);clear G B2;go_wp2;go_ret;rw[HE.out];exact ⟨_,rfl,HO.out,B3.out⟩
 have i5:¬ (n1:Int)=255:=by omega
 by_cases h4:n1=254
 ·have HD:=hidR (show dpF B=repF [] zf7 17 from by unfold dpF;rw[if_neg (by rw[E.out];exact h5)];exact if_pos (by rw[E.out];exact h4));subst h4;clear E R1;go_wp2_with fail
  go_loopw [5,6] (fun sv iv wr=>∃ k:Nat,k<=17/\iv=.int .i64 (k:Int)/\sv=.string (mkS (repF [] zf7 k))/\wr=w1) (fun _ iv _=>17 - (intOf iv).toNat)
  case atStart=>exact ⟨0,Nat.zero_le _,rfl,rfl,rfl⟩
  case round=>
   obtain ⟨k,hk,rfl,rfl,rfl⟩:=hrel;have hl:=zhd [] zf7 k;have au:zf7.length=13:=rfl;rw[au,List.length_nil]at hl;by_cases aD:k<17
   ·have i0:(k:Int)<=16:=by omega
    have z1:¬ 9223372036854775807<(mkS (repF [] zf7 k)).size+13:=by rw[zad];omega
    have HC:=hidX (show mkS (repF [] zf7 k) ++ { data:=#[40,114,117,108,101,32,97,32,48,32,61,62,41] }=mkS (repF [] zf7 (k+1)) from zj7 _ _ zf7 rfl);clear hl;generalize repF [] zf7 k=X at z1 HC;go_wp2;go_roundw
    case rel=>exact ⟨k+1,by omega,by go_num,by rw[HC.out],trivial⟩
    case measure=>(simp[intOf];omega)
   obtain rfl:k=17:=by omega
   have i0:¬ ((17:Nat):Int)<=16:=by omega
   have Z:(repF [] zf7 17).length<=1000000:=by omega
   clear hl;generalize repF [] zf7 17=L at Z HD;have O:=Lib.run_convert_string_bytes wr 9 22 5 (mkS L) Tryz.underlying9 Tryz.underlying22 Tryz.underlying5;rw[zad]at O;have B3:=hidR (B1.out.trans ((Lib.bytesWorld_below wr 5 (mkS L)).mono (Nat.le_of_lt ad)));have HO:=hidR ((ziN wr (w.heap.size+1) L (by omega) Z).txa);go_wp2;go_ret;rw[HD.out];exact ⟨_,rfl,HO.out,B3.out⟩
 have i4:¬ (n1:Int)=254:=by omega
 by_cases h3:n1=253
 ·have HD:=hidR (show dpF B=repF zeT addA 8 ++ [41] from by unfold dpF;rw[if_neg (by rw[E.out];exact h5),if_neg (by rw[E.out];exact h4)];exact if_pos (by rw[E.out];exact h3));subst h3;clear E R1;go_wp2_with fail
  go_loopw [7,8] (fun sv iv wr=>∃ k:Nat,k<=8/\iv=.int .i64 (k:Int)/\sv=.string (mkS (repF zeT addA k))/\wr=w1) (fun _ iv _=>8 - (intOf iv).toNat)
  case atStart=>exact ⟨0,Nat.zero_le _,rfl,rfl,rfl⟩
  case round=>
   obtain ⟨k,hk,rfl,rfl,rfl⟩:=hrel;have hl:=zhd zeT addA k;have au:addA.length=29:=rfl;have aK:zeT.length=16:=rfl;rw[au,aK]at hl;by_cases aD:k<8
   ·have i0:(k:Int)<8:=by omega
    have z1:¬ 9223372036854775807<(mkS (repF zeT addA k)).size+29:=by rw[zad];omega
    have HC:=hidX (show mkS (repF zeT addA k) ++ { data:=#[40,97,100,100,32,97,32,49,32,50,32,51,32,52,32,40,43,32,49,32,40,43,32,49,32,49,41,41,41] }=mkS (repF zeT addA (k+1)) from zj7 _ _ addA rfl);clear hl;generalize repF zeT addA k=X at z1 HC;go_wp2;go_roundw
    case rel=>exact ⟨k+1,by omega,by go_num,by rw[HC.out],trivial⟩
    case measure=>(simp[intOf];omega)
   obtain rfl:k=8:=by omega
   have i0:¬ ((8:Nat):Int)<8:=by omega
   have Z:(repF zeT addA 8 ++ [41]).length<=1000000:=by rw[List.length_append];simp only[List.length_cons,List.length_nil];omega
   have z1:¬ 9223372036854775807<(mkS (repF zeT addA 8)).size+1:=by rw[zad];omega
   have ak:mkS (repF zeT addA 8) ++ { data:=#[41] }=mkS (repF zeT addA 8 ++ [41]):=zj7 _ _ [41] rfl;clear hl;generalize repF zeT addA 8=X at Z z1 ak HD;have O:=Lib.run_convert_string_bytes wr 9 22 5 (mkS (X ++ [41])) Tryz.underlying9 Tryz.underlying22 Tryz.underlying5;rw[zad]at O;have B3:=hidR (B1.out.trans ((Lib.bytesWorld_below wr 5 (mkS (X ++ [41]))).mono (Nat.le_of_lt ad)));have HO:=hidR ((ziN wr (w.heap.size+1) (X ++ [41]) (by omega) Z).txa);generalize X ++ [41]=L at ak O HO B3 Z HD;go_wp2;go_ret;rw[HD.out];exact ⟨_,rfl,HO.out,B3.out⟩
 have i3:¬ (n1:Int)=253:=by omega
 obtain ⟨Rr,af⟩:∃ Rr,Rr=zb7 nmK 3 B.tail:=⟨_,rfl⟩
 have HD:=hidR (show dpF B=(zdE (zdE (txRs Rr.1) Rr.2).1 (zdE (txRs Rr.1) Rr.2).2).1 from by unfold dpF;rw[if_neg (by rw[E.out];exact h5),if_neg (by rw[E.out];exact h4),if_neg (by rw[E.out];exact h3),af]);have aM:(txRs Rr.1).length<=4890:=by rw[af];exact zjK _
 have aq:=hidR (zgP w.heap.size 3 B.tail w1 R1.out (by omega) (by omega));rw[<- af]at aq;clear af E R1;go_wp2_with fail
 refine aq.out.mono ?_;rintro e w2 ⟨ra,rc,M,rfl,aC,aN,ar,ab,I,ap⟩;have U:=zsv ab ar aC (by omega);have HN:=hidR (zsk ab ar);have ae:=hidR ab.rus;have aj:=ab.cap;have B2:=hidR (B1.out.trans (I.1.below (Nat.le_of_lt ad) (fun g hg=>by injection hg with hg;omega)));have aB:=hidR I.2;have aJ:=I.1.rest.size;clear ab I ar B1 aq;obtain ⟨rs,ao⟩:∃ rs,rs=M.map RuX.ru:=⟨_,rfl⟩
 have az:M.length=rs.length:=by rw[ao];simp
 rw[<- ao]at U HN ae ap;rw[az]at aC aN aj ⊢;have aF:(chk rs).1=0:=by rw[U.chk]
 have ah:=hidR (zlK rs ra rc none w2 ae.out (by omega) (fun r hr=>RuT.of ((zgB aF).2 r hr).1 (HN.out r hr)) (hidX (zip rs ra rc w2 ae.out aj U.le U.ops U.chk)));have aA:txRs rs=txRs Rr.1:=by rw[ap.out]
 rw[aA]at ah;obtain ⟨L,Z⟩:∃ L,L=txRs Rr.1:=⟨_,rfl⟩
 rw[<- Z]at ah aM HD;clear ao az U HN ae ap aF aA Z;go_wp2_with fail
 refine ah.out.mono ?_;rintro e w3 ⟨⟨v3,rfl,al⟩,G⟩;have T3:=hidR ((al.base (show w.heap.size+1<=w2.heap.size by omega)).txa);have R3:=hidR (aB.out.bel G);have B3:=hidR (B2.out.trans (G.mono B2.out.size));have aI:=G.size;have HT:=hidR (zik L Rr.2);clear al G ah B2 aB;go_wp2_with fail
 refine (zhC w.heap.size L Rr.2 v3 w3 R3.out T3.out (by omega)).mono ?_;rintro e w4 ⟨v4,rfl,ay,aE⟩;have T4:=hidR ay;have R4:=hidR aE;clear ay aE;go_wp2_with fail
 refine (zhC w.heap.size _ _ v4 w4 R4.out.2 T4.out (by have:=HT.out;omega)).mono ?_;rintro e w5 ⟨v5,rfl,aw,ax⟩;have T5:=hidR aw;have R5:=hidR (R4.out.trans ax);clear aw ax T4;go_wp2;go_ret;rw[HD.out];exact ⟨_,rfl,T5.out,B3.out.trans (R5.out.1.below (by omega) (fun g hg=>by injection hg with hg;omega))⟩
theorem zpg(w:World):TxAt (w.alloc (.cells #[.string ⟨#[97,100,100]⟩,.string ⟨#[100,114,111,112]⟩,.string ⟨#[109,111,100]⟩,.string ⟨#[104,97,108,116]⟩] 9)) w.heap.size actT:=fun j t ht=>by
 have hb:=heap_alloc_new w (.cells #[.string ⟨#[97,100,100]⟩,.string ⟨#[100,114,111,112]⟩,.string ⟨#[109,111,100]⟩,.string ⟨#[104,97,108,116]⟩] 9);refine zae (L:=[_,_,_,_]) hb ?_
 match j,ht with
 | 0,ht=>injection ht with ht;subst ht;rfl
 | 1,ht=>injection ht with ht;subst ht;rfl
 | 2,ht=>injection ht with ht;subst ht;rfl
 | 3,ht=>injection ht with ht;subst ht;rfl
 | j+4,ht=>cases ht
def zA:Ac:=⟨0,0,mkS [],[]⟩
structure AcB (w wx:World) (B pb g rb cb:Nat) (W:List Wd) (c:Nat) (nm sl pv av:Value) (ob:Option Nat) (r:Px (Ac × ES)) (sx:Ps) (x:Ac) (es':ES) (ea':Option Addr) (ec':Nat) (bg':Int) (la:Option Addr) (lc:Nat):Prop where
 mo:MkX pb ob w wx
 st:MX wx B pb g W c sx nm sl pv av es' ea' ec' bg'
 rw':RowX ob (obE es' ea' ec') w.heap.size
 rq:wx.heap[rb]?=some (.cells (acL zA (.slice none 0 0)).toArray 73 (0,0))
 cq:wx.heap[cb]?=some (.cells (acL x (.slice la x.args.length lc)).toArray 73 (0,0))
 ow:wx.ownsRow w.heap.size 3 1 (.slice la x.args.length lc) x.args.length (inC x.args)
 he:(∃ f,r=.error f/\onS sx (zai 41)=.error f)∨∃ y l,r=.ok ((x,es'),l)/\onS sx (zai 41)=.ok (y,l)
theorem MX.boxne{w:World}{B pb g b:Nat}{W:List Wd}{c:Nat}{s:Ps}{nm sl pv av:Value}{es:ES}{ea:Option Addr}{ec:Nat}{bg:Int}{cs:Array Value}(h:MX w B pb g W c s nm sl pv av es ea ec bg)(hb:w.heap[b]?=some (.cells cs 73 (0,0))):∀ k,obE es ea ec=some k->k≠b:=fun k hk e=>by
 obtain ⟨E,e1⟩:=zaA h.ow hk;subst e;rw[e1]at hb;injection hb with hb;injection hb with _ hb _;exact absurd hb (by decide)
theorem zkC(w:World)(B pb g:Nat)(W:List Wd)(c:Nat)(s:Ps)(nm sl pv av:Value)(es:ES)(ea:Option Addr)(ec:Nat)(bg:Int)(h:MX w B pb g W c s nm sl pv av es ea ec bg)(hk:∀ l,s=.ok l->es.1.length<=es.2/\es.2<=60):Calls Tryz.prog 59 #[.pointer (some ⟨pb,0,none⟩)] w (MEPost w B pb g W c nm sl pv av (obE es ea ec) (Rac w.heap.size) (onS s (actM es))):=by
 have HP:=hidX h;have HK:=hidX hk;have bb:=h.mb.lt;have bi:=h.mb.glt;have bk:=h.lt;have bj:=h.gl;have a7:=h.le;clear h hk;go_enter Tryz.func59,Tryz.ntmps59;go_upto_region 1 with fail
 refine zaf ?_;intro w1 aL aP;have bd:w.heap.size<w1.heap.size:=zab aP;have P1:=hidX (HP.out.below aL);have aw:=hidX (zbw w1 pb g W c s _ 1 40 rel40 (by decide) (by decide) P1.out.mb);have aS:=hidX aP;have M1:=hidX (MkX.of (MkO.of_below aL):MkX pb (obE es ea ec) w w1);clear aL aP;go_upto_region 2 with (first | (go_at_call 56;refine aw.out.mono ?_;rintro e w2 ⟨aq,⟨y,bh,_⟩,aY⟩;obtain rfl:e=.returned (wdA y):=bh;unfold wdA) | fail);have P2:=hidX (P1.out.mko aq aY zgn);have M2:=hidX (M1.out.trans (MkX.of aq) (.inl rfl));have bl:=aq.rest.size;have aA:=hidX ((aq.block w.heap.size bd (fun e=>by injection e;omega)).trans aS.out);clear aq aY aw aS M1 P1;go_upto_region 3 with fail
 refine zaf ?_;intro w3 ay aE;have bn:w2.heap.size<w3.heap.size:=zab aE;have P3:=hidX (P2.out.below ay);have M3:=hidX (M2.out.below ay);have aB:=hidX ((ay.block w.heap.size (by omega)).trans aA.out);have aR:=hidX aE;have ao:=zHA w3;have aW:=hidX (zfc (w3.alloc (.cells #[.string ⟨#[97,100,100]⟩,.string ⟨#[100,114,111,112]⟩,.string ⟨#[109,111,100]⟩,.string ⟨#[104,97,108,116]⟩] 9)) pb g w3.heap.size 4 W c (stS (onS s (zai 40))) _ 5 actT (by decide) (by decide) (zpg _) (by omega) (by simp) (by decide) (P3.out.mb.below (ao.out _)));clear ay aE P2 M2 aA
 go_upto_block 0 with (first | (go_at_call 57;refine aW.out.mono ?_;rintro e w4 ⟨ap,⟨t,a8,aD⟩,aQ⟩;obtain rfl:e=.returned (.string (mkS t)):=a8) | fail)
 have bc:=ap.rest.size;simp at bc;have P4:=hidX ((P3.out.below (ao.out _)).mko ap aQ zgn);have M4:=hidX ((M3.out.below (ao.out _)).trans (MkX.of ap) (.inl rfl));have ae:=hidX ((ap.block w.heap.size (by simp;omega) (fun e=>by injection e;omega)).trans (((ao.out _).block w.heap.size (by omega)).trans aB.out));have Z:=hidX ((ap.block w2.heap.size (by simp;omega) (fun e=>by injection e;omega)).trans (((ao.out _).block w2.heap.size (by omega)).trans aR.out));have aX:=hidX aD;have HW:=hidX (zrh (es:=es) HP.out.mb.gs aD);have aV:w2.heap.size<w4.heap.size:=by omega
 obtain ⟨s2,ar⟩:∃ s2,s2=stS (onS (stS (onS s (zai 40))) (oneM 5 actT)):=⟨_,rfl⟩
 rw[<- ar]at P4 HW;have aN:=hidX ar;have aM:Hid (∀ l,s2=.ok l->es.1.length<=es.2/\es.2<=60):=show ∀ _,_ from fun l e=>by
  rw[aN.out]at e;obtain ⟨l1,e1⟩:=zgn l e;obtain ⟨l2,e2⟩:=zgn l1 e1;exact HK.out l2 e2
 clear ap aQ aD ar aW ao M3 P3 aB aR;have bm:w.heap.size<w2.heap.size:=by omega
 go_cut [] (fun wx=>∃ sx x es' ea' ec' bg' la lc,AcB w wx B pb g w.heap.size w2.heap.size W c nm sl pv av (obE es ea ec) (onS s (actM es)) sx x es' ea' ec' bg' la lc)
 case first=>
  have b0:=zae (L:=acL zA (.slice none 0 0)) Z.out (j:=0) rfl;have z0:=zax Z.out 0;have q1:=zbB (mkS t) addT;have q2:=zbB (mkS t) zdV;have q3:=zbB (mkS t) modT;have q4:=zbB (mkS t) zd6;rw[zbX]at q1 q2 q3 q4;replace q1:((mkS t).toList==[97,100,100])=decide (t=addT):=q1;replace q2:((mkS t).toList==[100,114,111,112])=decide (t=zdV):=q2;replace q3:((mkS t).toList==[109,111,100])=decide (t=modT):=q3;replace q4:((mkS t).toList==[104,97,108,116])=decide (t=zd6):=q4;by_cases h1:t=addT
  ·subst h1;rw[decide_eq_true rfl]at q1;clear q2 q3 q4;go_upto_region 6 with fail
   refine zau Z.out ?_;intro w5 O G;replace O:w5.heap[w2.heap.size]?=some (.cells (acL ⟨1,0,mkS [],[]⟩ (.slice none 0 0)).toArray 73 (0,0)):=by
    rw[O]
    first | rfl | (simp[acL];done) | simp[acL,mkS]
   have P5:=hidX (P4.out.turned G (by omega) (P4.out.boxne Z.out));have M5:=hidX (M4.out.turn G (by omega));have R5:=hidX ((G.block w.heap.size (by omega)).trans ae.out);have C5:=hidX O;have aU:w4.heap.size<=w5.heap.size:=Nat.le_of_eq G.size.symm;clear O G b0 z0;have ak:=hidX (zh0 w5 pb g W c s2 _ P5.out.mb);go_upto_region 7 with (first | (go_at_call 105;refine ak.out.mono ?_;rintro e w6 ⟨E,⟨v6,al,ah⟩,ad⟩;obtain rfl:e=.returned (.string (mkS v6)):=al;have aF:=E.rest.size;have U:=(E.block w2.heap.size (by omega) (fun e=>by injection e;omega)).trans C5.out;have d0:=zae U (j:=2) rfl;have e0:=zax U 2) | fail);refine zau U ?_;intro w7 X I;replace X:w7.heap[w2.heap.size]?=some (.cells (acL ⟨1,0,mkS v6,[]⟩ (.slice none 0 0)).toArray 73 (0,0)):=by
    rw[X]
    first | rfl | (simp[acL];done) | simp[acL,mkS]
   have P6:=P5.out.mko E ad zgn;have P7:=hidX (P6.turned I (by omega) (P6.boxne U));have M7:=hidX ((M5.out.trans (MkX.of E) (.inl rfl)).turn I (by omega));have R7:=hidX ((I.block w.heap.size (by omega)).trans ((E.block w.heap.size (by omega) (fun e=>by injection e;omega)).trans R5.out));have C7:=hidX X;have ax:=hidX ah;have aT:w6.heap.size<=w7.heap.size:=Nat.le_of_eq I.size.symm;have aO:=hidX (zjx w7 B pb g W c (stS (onS s2 za3)) nm sl pv av es ea ec bg P7.out (fun l e=>by obtain ⟨l1,e1⟩:=zgn l e;exact aM.out l1 e1));have aJ:=hidX (P7.out.boxne X);have aK:=hidX (P7.out.boxne R7.out);clear U X I E ad ah d0 e0 P6 ak P5 M5 R5 C5;go_wp2_with (first | (go_at_call 108;refine aO.out.mono ?_;rintro e w8 ⟨ag,M,la,lc,sx,es',ea',ec',bg',rfl,aG,au,aC,_,aH⟩;have aZ:=ag.rest.size;have ab:=(ag.block w2.heap.size (by omega) (by omega) (fun e=>aJ.out _ e rfl)).trans C7.out;have d3:=zae ab (j:=3) rfl;have e3:=zax ab 3) | fail);refine zau ab ?_;intro w9 aj af;replace aj:w9.heap[w2.heap.size]?=some (.cells (acL ⟨1,0,mkS v6,M⟩ (.slice la M.length lc)).toArray 73 (0,0)):=by
    rw[aj]
    first | rfl | (simp[acL];done) | simp[acL,mkS]
   have P9:=au.turned af (by omega) (au.boxne ab);have M9:=(M7.out.trans ag (.inl rfl)).turn af (by omega);have R9:=(af.block w.heap.size (by omega)).trans ((ag.block w.heap.size (by omega) (by omega) (fun e=>aK.out _ e rfl)).trans R7.out);have O9:=zbR (zaO aG (show w.heap.size<=w7.heap.size by omega)) af ab (by decide);have X9:RowX (obE es ea ec) (obE es' ea' ec') w.heap.size:=aC.imp id fun h g hg=>by have:=h g hg;omega
   clear d3 e3;go_meet;exact ⟨sx,⟨1,0,mkS v6,M⟩,es',ea',ec',bg',la,lc,M9,P9,X9,R9,aj,O9,by rw[HW.out];exact zpo ax.out aH⟩
  by_cases h2:t=zdV
  ·subst h2;rw[decide_eq_true rfl]at q2;rw[decide_eq_false h1]at q1;clear h1 q3 q4;go_upto_region 10 with fail
   refine zau Z.out ?_;intro w5 O G;replace O:w5.heap[w2.heap.size]?=some (.cells (acL ⟨2,0,mkS [],[]⟩ (.slice none 0 0)).toArray 73 (0,0)):=by
    rw[O]
    first | rfl | (simp[acL];done) | simp[acL,mkS]
   have P5:=hidX (P4.out.turned G (by omega) (P4.out.boxne Z.out));have M5:=hidX (M4.out.turn G (by omega));have R5:=hidX ((G.block w.heap.size (by omega)).trans ae.out);have C5:=hidX O;have aU:w4.heap.size<=w5.heap.size:=Nat.le_of_eq G.size.symm;clear O G b0 z0;have ak:=hidX (zhS w5 pb g W c s2 _ P5.out.mb);go_wp2_with (first | (go_at_call 109;refine ak.out.mono ?_;rintro e w6 ⟨E,⟨v6,al,ah⟩,ad⟩;obtain rfl:e=.returned (.int .i64 v6):=al;have aF:=E.rest.size;have U:=(E.block w2.heap.size (by omega) (fun e=>by injection e;omega)).trans C5.out;have d0:=zae U (j:=1) rfl;have e0:=zax U 1) | fail);refine zau U ?_;intro w7 X I;replace X:w7.heap[w2.heap.size]?=some (.cells (acL ⟨2,v6,mkS [],[]⟩ (.slice none 0 0)).toArray 73 (0,0)):=by
    rw[X]
    first | rfl | (simp[acL];done) | simp[acL,mkS]
   have P6:=P5.out.mko E ad zgn;have P7:=hidX (P6.turned I (by omega) (P6.boxne U));have M7:=hidX ((M5.out.trans (MkX.of E) (.inl rfl)).turn I (by omega));have R7:=hidX ((I.block w.heap.size (by omega)).trans ((E.block w.heap.size (by omega) (fun e=>by injection e;omega)).trans R5.out));have C7:=hidX X;have ax:=hidX ah;have aT:w6.heap.size<=w7.heap.size:=Nat.le_of_eq I.size.symm;clear d0 e0;go_meet;exact ⟨stS (onS s2 pRef),⟨2,v6,mkS [],[]⟩,es,ea,ec,bg,none,0,M7.out,P7.out,.inl rfl,R7.out,C7.out,World.ownsRow_nil _ _ _ _,by rw[HW.out];exact znm ah⟩
  by_cases h3:t=modT
  ·subst h3;rw[decide_eq_true rfl]at q3;rw[decide_eq_false h1]at q1;rw[decide_eq_false h2]at q2;clear h1 h2 q4;go_upto_region 13 with fail
   refine zau Z.out ?_;intro w5 O G;replace O:w5.heap[w2.heap.size]?=some (.cells (acL ⟨3,0,mkS [],[]⟩ (.slice none 0 0)).toArray 73 (0,0)):=by
    rw[O]
    first | rfl | (simp[acL];done) | simp[acL,mkS]
   have P5:=hidX (P4.out.turned G (by omega) (P4.out.boxne Z.out));have M5:=hidX (M4.out.turn G (by omega));have R5:=hidX ((G.block w.heap.size (by omega)).trans ae.out);have C5:=hidX O;have aU:w4.heap.size<=w5.heap.size:=Nat.le_of_eq G.size.symm;clear O G b0 z0;have ak:=hidX (zhS w5 pb g W c s2 _ P5.out.mb);go_upto_region 14 with (first | (go_at_call 109;refine ak.out.mono ?_;rintro e w6 ⟨E,⟨v6,al,ah⟩,ad⟩;obtain rfl:e=.returned (.int .i64 v6):=al;have aF:=E.rest.size;have U:=(E.block w2.heap.size (by omega) (fun e=>by injection e;omega)).trans C5.out;have d0:=zae U (j:=1) rfl;have e0:=zax U 1) | fail);refine zau U ?_;intro w7 X I;replace X:w7.heap[w2.heap.size]?=some (.cells (acL ⟨3,v6,mkS [],[]⟩ (.slice none 0 0)).toArray 73 (0,0)):=by
    rw[X]
    first | rfl | (simp[acL];done) | simp[acL,mkS]
   have P6:=P5.out.mko E ad zgn;have P7:=hidX (P6.turned I (by omega) (P6.boxne U));have M7:=hidX ((M5.out.trans (MkX.of E) (.inl rfl)).turn I (by omega));have R7:=hidX ((I.block w.heap.size (by omega)).trans ((E.block w.heap.size (by omega) (fun e=>by injection e;omega)).trans R5.out));have C7:=hidX X;have ax:=hidX ah;have aT:w6.heap.size<=w7.heap.size:=Nat.le_of_eq I.size.symm;have aO:=hidX (zjx w7 B pb g W c (stS (onS s2 pRef)) nm sl pv av es ea ec bg P7.out (fun l e=>by obtain ⟨l1,e1⟩:=zgn l e;exact aM.out l1 e1));have aJ:=hidX (P7.out.boxne X);have aK:=hidX (P7.out.boxne R7.out);clear U X I E ad ah d0 e0 P6 ak P5 M5 R5 C5;go_wp2_with (first | (go_at_call 108;refine aO.out.mono ?_;rintro e w8 ⟨ag,M,la,lc,sx,es',ea',ec',bg',rfl,aG,au,aC,_,aH⟩;have aZ:=ag.rest.size;have ab:=(ag.block w2.heap.size (by omega) (by omega) (fun e=>aJ.out _ e rfl)).trans C7.out;have d3:=zae ab (j:=3) rfl;have e3:=zax ab 3) | fail);refine zau ab ?_;intro w9 aj af;replace aj:w9.heap[w2.heap.size]?=some (.cells (acL ⟨3,v6,mkS [],M⟩ (.slice la M.length lc)).toArray 73 (0,0)):=by
    rw[aj]
    first | rfl | (simp[acL];done) | simp[acL,mkS]
   have P9:=au.turned af (by omega) (au.boxne ab);have M9:=(M7.out.trans ag (.inl rfl)).turn af (by omega);have R9:=(af.block w.heap.size (by omega)).trans ((ag.block w.heap.size (by omega) (by omega) (fun e=>aK.out _ e rfl)).trans R7.out);have O9:=zbR (zaO aG (show w.heap.size<=w7.heap.size by omega)) af ab (by decide);have X9:RowX (obE es ea ec) (obE es' ea' ec') w.heap.size:=aC.imp id fun h g hg=>by have:=h g hg;omega
   clear d3 e3;go_meet;exact ⟨sx,⟨3,v6,mkS [],M⟩,es',ea',ec',bg',la,lc,M9,P9,X9,R9,aj,O9,by rw[HW.out];exact zoN ax.out aH⟩
  by_cases h4:t=zd6
  ·subst h4;rw[decide_eq_true rfl]at q4;rw[decide_eq_false h1]at q1;rw[decide_eq_false h2]at q2;rw[decide_eq_false h3]at q3;clear h1 h2 h3;go_wp2_with fail
   refine zau Z.out ?_;intro w5 O G;replace O:w5.heap[w2.heap.size]?=some (.cells (acL ⟨4,0,mkS [],[]⟩ (.slice none 0 0)).toArray 73 (0,0)):=by
    rw[O]
    first | rfl | (simp[acL];done) | simp[acL,mkS]
   have P5:=P4.out.turned G (by omega) (P4.out.boxne Z.out);have M5:=M4.out.turn G (by omega);have R5:=(G.block w.heap.size (by omega)).trans ae.out;clear b0 z0;go_meet;exact ⟨s2,⟨4,0,mkS [],[]⟩,es,ea,ec,bg,none,0,M5,P5,.inl rfl,R5,O,World.ownsRow_nil _ _ _ _,by rw[HW.out];exact zmG⟩
  ·obtain ⟨f,hf⟩:=zpR aX.out (by simp[actT,h1,h2,h3,h4]);rw[<- aN.out]at hf;rw[decide_eq_false h1]at q1;rw[decide_eq_false h2]at q2;rw[decide_eq_false h3]at q3;rw[decide_eq_false h4]at q4;have HE:Hid ((∃ f,onS s (actM es)=.error f/\onS s2 (zai 41)=.error f)∨∃ y l,onS s (actM es)=.ok ((zA,es),l)/\onS s2 (zai 41)=.ok (y,l)):=show _∨_ from .inl ⟨f,by rw[HW.out,hf];rfl,by rw[hf];rfl⟩;clear h1 h2 h3 h4 b0 z0 hf;go_wp2_with fail
   go_meet;exact ⟨s2,zA,es,ea,ec,bg,none,0,M4.out,P4.out,.inl rfl,ae.out,Z.out,World.ownsRow_nil _ _ _ _,HE.out⟩
 case rest=>
  obtain ⟨sx,x,es',ea',ec',bg',la,lc,az⟩:=hcut;obtain ⟨w5,rfl⟩:∃ v,v=wc:=⟨wc,rfl⟩
  clear M4 P4 ae Z aX aV HW aN aM;have AC:=hidX az;have aV:w2.heap.size<w5.heap.size:=zab az.cq;have aw:=hidX (zbw w5 pb g W c sx _ 2 41 rel41 (by decide) (by decide) az.st.mb);clear az;go_upto_region 18 with (first | (go_at_call 56;refine aw.out.mono ?_;rintro e w6 ⟨E,⟨y6,al,_⟩,ad⟩;obtain rfl:e=.returned (wdA y6):=al;unfold wdA) | fail);have aF:=E.rest.size;have aI:=(E.block w.heap.size (by omega) (fun e=>by injection e;omega)).trans AC.out.rq;have ba:=(E.block w2.heap.size (by omega) (fun e=>by injection e;omega)).trans AC.out.cq;have P6:=hidX (AC.out.st.mko E ad zgn);have M6:=hidX (AC.out.mo.trans (MkX.of E) AC.out.rw');have bf:=hidX (zbq AC.out.ow E bb);clear E ad aw;go_wp2_with (first | (refine zam (by rfl) 73 (.tmp 3) (by rfl) w2.heap.size (acL x (.slice la x.args.length lc)) (by rfl) 73 (0,0) ba _ Tryz.underlying73 rfl zbU ?_) | (refine zac (by rfl) 73 (.tmp 2) (.tmp 38) (by rfl) w.heap.size (acL x (.slice la x.args.length lc)) (by rfl) (by rfl) _ 73 aI (by rfl) zbU (zcv _ _ _ _) ?_;intro w7 a6 I) | fail);have a1:=run_loadVar_mid (P:=Tryz.prog) w7 w.heap.size 0 73 (acL x (.slice la x.args.length lc)) _ (zal a6.out) Tryz.underlying73 rfl zbU;(try go_frame);refine bodyPost_ret (v:=.agg (acL x (.slice la x.args.length lc)).toArray) (by simp[results,Tryz.results59,asAddr,a1]) rfl ?_;have M7:=M6.out.turn I.out (Nat.le_refl _);have P7:=P6.out.turned I.out a7 (P6.out.boxne aI);have O7:=zbR bf.out I.out aI (by decide);rcases AC.out.he with ⟨f,h1,h2⟩ | ⟨y,l,h1,h2⟩
  ·rw[h2]at P7;exact MEPost.err x h1 M7 ⟨la,lc,rfl,O7⟩ P7 AC.out.rw'
  rw[h2]at P7;rw[h1];exact ⟨M7,x,es',ea',ec',bg',⟨la,lc,rfl,O7⟩,P7,AC.out.rw',fun y l e=>by injection e with e;injection e with e _;exact e.symm⟩
end Go.Proofs.YtjjjagepnnbebaaGreatDoor
namespace Go.Proofs.YtjjjagepnnbebaaGreatDoor
open Go.RowKit
def pTo(n:Nat)(l:List Wd):Px (List Pt):=andP (za1 62 pPat n l) fun ps l1=>andP (zai 62 l1) fun _ l2=>.ok (ps,l2)
def aTo(n:Nat)(es:ES)(l:List Wd):Px (List Ac × ES):=andP (zaK 41 pAct n es l) fun q l1=>andP (zai 41 l1) fun _ l2=>.ok (q,l2)
theorem zpD{w:World}{pb g:Nat}{W:List Wd}{c:Nat}{s:Ps}{R:List Value}{n:Nat}(Z:MB w pb g W c s R)(hk:zbx s=1)(v:Pt)(hv:∀ y l,onS (zaD s) patM=.ok (y,l)->y=v)(M:List Pt):preL M (onS s (pTo (n+1)))=preL (M ++ [v]) (onS (stS (onS (zaD s) patM)) (pTo n)):=by
 obtain ⟨x,r,rfl,G,hn,O,hx,_⟩:=zcj Z (by decide) (by decide) hk;rw[O]at hv ⊢;have hp:pkW x=40:=(rel40 x hx).1 G;have ht:zai 40 (x :: r)=.ok (x,r):=by simp only[zai,hn,if_pos hp]
 simp only[onS,patM,ht,zak]at hv ⊢
 cases U:pPat r with
 | error f=>
  have e:pTo (n+1) (x :: r)=.error f:=by
   unfold pTo;rw[zfq hn (by omega) ht U];rfl
  rw[e];rfl
 | ok q=>
  obtain ⟨I,l2⟩:=q;obtain rfl:=hv I l2 U;simp only[stS];have e:pTo (n+1) (x :: r)=preL [I] (pTo n l2):=by
   have E:=zcZ (M:=[]) (n:=n) hn (show pkW x≠62 by omega) ht U;have h1:za1 62 pPat (n+1) (x :: r)=preL [I] (za1 62 pPat n l2):=by
    cases X:za1 62 pPat (n+1) (x :: r) with
    | error f=>rw[X]at E;exact E
    | ok p=>rw[X]at E;simpa[preL] using E
   unfold pTo;rw[h1]
   cases za1 62 pPat n l2 with
   | error f=>rfl
   | ok p=>
    obtain ⟨vs,l3⟩:=p;simp only[preL,zak]
    cases zai 62 l3 <;> rfl
  rw[e]
  cases pTo n l2 with
  | error f=>rfl
  | ok p=>simp[preL]
theorem zrx{w:World}{pb g:Nat}{W:List Wd}{c:Nat}{s:Ps}{R:List Value}{n:Nat}(I:MB w pb g W c s R)(hk:zbx s≠1):onS s (pTo n)=andP (onS (zaD s) (oneM 6 toT)) fun _ l=>.ok ([],l):=by
 cases s with
 | error f=>rfl
 | ok l=>
  have hg:=I.good;obtain ⟨x,r,rfl,hx,_⟩:=I.head
  cases hr:zaj (x :: r) with
  | error f=>
   rw[(zaY hr).2];simp only[onS,pTo];rw[zfD hr];rfl
  | ok p=>
   obtain ⟨y,O⟩:=p;obtain ⟨rfl,_⟩:=za8 hr;rw[(look_ok hr).1]at hk;rw[(look_ok hr).2];simp only[onS,pTo];rw[zsb hg];have G:pkW y≠40:=fun e=>hk ((rel40 y hx).2 e);by_cases E:pkW y=62
   ·rw[zdz hr E,zak]
    cases zai 62 (y :: r) <;> rfl
   have ht:zai 62 (y :: r)=.error (3,y.pos):=by simp only[zai,hr,if_neg E]
   have hm:za1 62 pPat n (y :: r)=.error (3,y.pos):=by
    cases n with
    | zero=>simp[za1,hr,E,G]
    | succ n=>simp[za1,hr,E,zai,G]
   rw[hm,ht];rfl
theorem zoJ{w:World}{pb g:Nat}{W:List Wd}{c:Nat}{s:Ps}{R:List Value}(I:MB w pb g W c s R)(hk:zbx s=1):onS s (pTo 0)=andP (onS (zdf 4 (zaD s)) (oneM 6 toT)) fun _ l=>.ok ([],l):=by
 obtain ⟨x,r,rfl,E,hn,G,hx,_⟩:=zcj I (by decide) (by decide) hk;rw[G];have hp:pkW x=40:=(rel40 x hx).1 E;have hm:za1 62 pPat 0 (x :: r)=.error (4,x.pos):=by simp[za1,hn,hp]
 simp only[onS,pTo,hm];rfl
theorem zpm{w:World}{pb g:Nat}{W:List Wd}{c:Nat}{s:Ps}{R:List Value}{n:Nat}{es:ES}(hM:MB w pb g W c s R)(hk:zbx s=1)(v:Ac)(E:ES)(hv:∀ y l,onS (zaD s) (actM es)=.ok (y,l)->y=(v,E))(M:List Ac):preE M (onS s (aTo (n+1) es))=preE (M ++ [v]) (onS (stS (onS (zaD s) (actM es))) (aTo n E)):=by
 obtain ⟨x,r,rfl,I,hn,O,hx,_⟩:=zcj hM (by decide) (by decide) hk;rw[O]at hv ⊢;have hp:pkW x=40:=(rel40 x hx).1 I;have ht:zai 40 (x :: r)=.ok (x,r):=by simp only[zai,hn,if_pos hp]
 simp only[onS,actM,ht,zak]at hv ⊢
 cases U:pAct es r with
 | error f=>
  have e:aTo (n+1) es (x :: r)=.error f:=by
   unfold aTo;rw[zh5 hn (by omega) ht U];rfl
  rw[e];rfl
 | ok q=>
  obtain ⟨⟨Z,es'⟩,l2⟩:=q;have e0:=hv _ l2 U;injection e0 with e1 e2;subst e1;subst e2;simp only[stS];have e:aTo (n+1) es (x :: r)=preE [Z] (aTo n es' l2):=by
   have G:=zeQ (M:=[]) (n:=n) hn (show pkW x≠41 by omega) ht U;have h1:zaK 41 pAct (n+1) es (x :: r)=preE [Z] (zaK 41 pAct n es' l2):=by
    cases X:zaK 41 pAct (n+1) es (x :: r) with
    | error f=>rw[X]at G;exact G
    | ok p=>rw[X]at G;simpa[preE] using G
   unfold aTo;rw[h1]
   cases zaK 41 pAct n es' l2 with
   | error f=>rfl
   | ok p=>
    obtain ⟨vs,l3⟩:=p;simp only[preE,zak]
    cases zai 41 l3 <;> rfl
  rw[e]
  cases aTo n es' l2 with
  | error f=>rfl
  | ok p=>simp[preE]
theorem zra{w:World}{pb g:Nat}{W:List Wd}{c:Nat}{s:Ps}{R:List Value}{n:Nat}{es:ES}(I:MB w pb g W c s R)(hk:zbx s≠1):onS s (aTo n es)=andP (onS (zaD s) (zai 41)) fun _ l=>.ok (([],es),l):=by
 cases s with
 | error f=>rfl
 | ok l=>
  obtain ⟨x,r,rfl,hx,_⟩:=I.head
  cases hr:zaj (x :: r) with
  | error f=>
   rw[(zaY hr).2];simp only[onS,aTo];rw[zhL hr];rfl
  | ok p=>
   obtain ⟨y,O⟩:=p;obtain ⟨rfl,_⟩:=za8 hr;rw[(look_ok hr).1]at hk;rw[(look_ok hr).2];simp only[onS,aTo];have G:pkW y≠40:=fun e=>hk ((rel40 y hx).2 e);by_cases E:pkW y=41
   ·rw[zfJ hr E,zak]
   have ht:zai 41 (y :: r)=.error (3,y.pos):=by simp only[zai,hr,if_neg E]
   have hm:zaK 41 pAct n es (y :: r)=.error (3,y.pos):=by
    cases n with
    | zero=>simp[zaK,hr,E,G]
    | succ n=>simp[zaK,hr,E,zai,G]
   rw[hm,ht];rfl
theorem zoS{w:World}{pb g:Nat}{W:List Wd}{c:Nat}{s:Ps}{R:List Value}{es:ES}(I:MB w pb g W c s R)(hk:zbx s=1):onS s (aTo 0 es)=andP (onS (zdf 4 (zaD s)) (zai 41)) fun _ l=>.ok (([],es),l):=by
 obtain ⟨x,r,rfl,E,hn,G,hx,_⟩:=zcj I (by decide) (by decide) hk;rw[G];have hp:pkW x=40:=(rel40 x hx).1 E;have hm:zaK 41 pAct 0 es (x :: r)=.error (4,x.pos):=by simp[zaK,hn,hp]
 simp only[onS,aTo,hm];rfl
theorem zmc{α β γ:Type}(r:Px α)(f:α->List Wd->Px β)(k:β->List Wd->Px γ):andP (andP r f) k=andP r fun x l=>andP (f x l) k:=by
 cases r with
 | error e=>rfl
 | ok q=>rfl
def ruM(l:List Wd):Px Ru:=andP (zai 40 l) fun _ l1=>zbh l1
def ruT:List Bs:=[zd2]
theorem zrs{l:List Wd}(h:zdT l):zbh l=andP (oneM 5 ruT l) fun _ l1=>andP (zai 97 l1) fun nm l2=>andP (zai 48 l2) fun sl l3=>andP (pTo 6 l3) fun ps l5=>andP (aTo 8 ([],0) l5) fun q l7=>.ok (⟨mkS (ptW nm),sl.num,ps,q.2.1,q.1⟩,l7):=by
 rw[zkF h];unfold zbh pTo aTo;simp only[zmc,zak]
 cases zai 97 l with
 | error f=>rfl
 | ok q=>
  obtain ⟨x,r⟩:=q;simp only[zak];by_cases h1:ptW x=zd2
  ·rw[if_pos h1,if_pos (by rw[h1];decide),zak]
  rw[if_neg h1,if_neg (by simp[ruT,h1])];rfl
theorem zoB{l r:List Wd}{x:Wd}(hg:zdT l)(h:zai 97 l=.ok (x,r)):ptW x=x.text:=by
 unfold zai at h
 cases hr:zaj l with
 | error f=>rw[hr]at h;cases h
 | ok q=>
  obtain ⟨y,E⟩:=q;rw[hr]at h;simp only at h;split at h
  ·rename_i hp;injection h with h;injection h with h _;subst h;have hx:WdOk y:=hg.2 y (zc4 hr);exact zf9 hx ((rel97 y hx).2 hp)
  cases h
theorem zn2{s s1 s2 O Z:Ps}{X ys:Wd}(hg:zqz s)(h1:s1=stS (onS s (zai 40)))(h2:s2=stS (onS s1 (oneM 5 ruT)))(h3:O=stS (onS s2 (zai 97)))(hn:∀ y l,onS s2 (zai 97)=.ok (y,l)->y=X)(E:Z=stS (onS O (zai 48)))(hs:∀ y l,onS O (zai 48)=.ok (y,l)->y=ys) :
  onS s ruM=andP (onS Z (pTo 6)) fun ps l5=>andP (aTo 8 ([],0) l5) fun q l7=>.ok (⟨mkS X.text,ys.num,ps,q.2.1,q.1⟩,l7):=by
 cases s with
 | error f=>subst h1 h2 h3 E;rfl
 | ok l=>
  have G:=Fine.take 40 l hg;simp only[onS]at h1;simp only[onS,ruM]
  cases hk:zai 40 l with
  | error f=>rw[hk]at h1;subst h1 h2 h3 E;rfl
  | ok q=>
   obtain ⟨x1,l1⟩:=q;rw[hk]at h1 G;simp only[stS]at h1;subst h1;rw[zak,zrs G];simp only[onS]at h2;have f2:zje (oneM 5 ruT l1):=by
    have I:=Fine.take 97 l1 G;rw[zkF G]
    cases ht:zai 97 l1 with
    | error f=>rw[ht]at I;exact I
    | ok q=>
     rw[ht]at I;rw[zak];split
     ·exact I
     ·show (3:Int)≠0;decide
   cases ho:oneM 5 ruT l1 with
   | error f=>rw[ho]at h2;subst h2 h3 E;rfl
   | ok q=>
    obtain ⟨t,l2⟩:=q;rw[ho]at h2 f2;simp only[stS]at h2;subst h2;rw[zak];simp only[onS]at h3 hn
    cases ht:zai 97 l2 with
    | error f=>rw[ht]at h3;subst h3 E;rfl
    | ok q=>
     obtain ⟨x3,l3⟩:=q;rw[ht]at h3;simp only[stS]at h3;subst h3;have e3:=hn x3 l3 ht;subst e3;rw[zak,zoB f2 ht];simp only[onS]at E hs
     cases U:zai 48 l3 with
     | error f=>rw[U]at E;subst E;rfl
     | ok q=>
      obtain ⟨x4,l4⟩:=q;rw[U]at E;simp only[stS]at E;subst E;have e4:=hs x4 l4 U;subst e4;rfl
theorem zp2{r:Px Ru}{U sx s5 E:Ps}{nm:ByteArray}{sl:Int}{G:List Pt}{I:List Ac}{es:ES}(hr:r=andP (onS U (pTo 6)) fun ps l5=>andP (aTo 8 ([],0) l5) fun q l7=>.ok (⟨nm,sl,ps,q.2.1,q.1⟩,l7))
  (hp:onS U (pTo 6)=preL G (andP (onS sx (oneM 6 toT)) fun _ l=>.ok ([],l))) (O:s5=stS (onS sx (oneM 6 toT))) (ha:onS s5 (aTo 8 ([],0))=preE I (andP (onS E (zai 41)) fun _ l=>.ok (([],es),l))) :
  (∃ f,r=.error f/\onS E (zai 41)=.error f)∨∃ y l,r=.ok (⟨nm,sl,G,es.1,I⟩,l)/\onS E (zai 41)=.ok (y,l):=by
 rw[hr,hp]
 cases ho:onS sx (oneM 6 toT) with
 | error f=>
  rw[ho]at O;subst O;refine .inl ⟨f,rfl,?_⟩
  cases hy:onS E (zai 41) with
  | error X=>
   rw[hy]at ha;injection ha with ha;rw[ha]
  | ok q=>rw[hy]at ha;cases ha
 | ok q=>
  obtain ⟨t,l5⟩:=q;rw[ho]at O;subst O;change aTo 8 ([],0) l5=_ at ha;rw[zak,zkZ,zak,ha]
  cases hy:onS E (zai 41) with
  | error f=>exact .inl ⟨f,rfl,rfl⟩
  | ok q=>
   refine .inr ⟨q.1,q.2,?_,rfl⟩;simp[andP,preE]
end Go.Proofs.YtjjjagepnnbebaaGreatDoor
namespace Go.Proofs.YtjjjagepnnbebaaGreatDoor
open Go.RowKit
attribute [local go_sem ↓] Go.wp_at_zero Go.wp_at_succ
theorem zlH{P:World->Prop}{w:World}{b o:Nat}{t:TypeId}{cs:Array Value}{v0 E v2 v3 v4:Value}(I:w.heap[b]?=some (.cells cs t (0,0)))(hs:o+5<=cs.size)(h:∀ G,G.heap[b]?=some (.cells (cs.toList.take o ++ ([v0,E,v2,v3,v4] ++ cs.toList.drop (o+5))).toArray t (0,0))->Turned w G b->P G):P (((((w.setCell ⟨b,o,none⟩ v0).setCell ⟨b,o+1,none⟩ E).setCell ⟨b,o+2,none⟩ v2).setCell ⟨b,o+3,none⟩ v3).setCell ⟨b,o+4,none⟩ v4):=
 h _ (za0 I (o:=o) [v0,E,v2,v3,v4] (by simp;omega)) (Turned.setCells [v0,E,v2,v3,v4] o w b)
theorem zqf(w:World):TxAt (w.alloc (.cells #[.string ⟨#[114,117,108,101]⟩] 9)) w.heap.size ruT:=fun j t ht=>by
 have hb:=heap_alloc_new w (.cells #[.string ⟨#[114,117,108,101]⟩] 9);refine zae (L:=[_]) hb ?_
 match j,ht with
 | 0,ht=>injection ht with ht;subst ht;rfl
 | j+1,ht=>cases ht
theorem zq6(w:World):TxAt (w.alloc (.cells #[.string ⟨#[61,62]⟩] 9)) w.heap.size toT:=fun j t ht=>by
 have hb:=heap_alloc_new w (.cells #[.string ⟨#[61,62]⟩] 9);refine zae (L:=[_]) hb ?_
 match j,ht with
 | 0,ht=>injection ht with ht;subst ht;rfl
 | j+1,ht=>cases ht
theorem MB.clear{w w':World}{pb g:Nat}{W:List Wd}{c:Nat}{s:Ps}{nm sl pv ev av bv G s' I E a':Value}(h:MB w pb g W c s (RM nm sl pv ev av bv))(ht:Turned w w' pb)(U:∀ cs,w.heap[pb]?=some (.cells cs 64 (0,0))->w'.heap[pb]?=some (.cells (cs.toList.take 4 ++ ([G,s',I,E,a'] ++ cs.toList.drop 9)).toArray 64 (0,0))):MB w' pb g W c s (RM G s' I E a' bv):=by
 obtain ⟨k,O,pos,hb,hk,hs⟩:=h.st;refine h.to ht.mko ⟨k,O,pos,(U _ hb).trans ?_,hk,hs⟩;simp[RM]
def MRPost(w:World)(pb g:Nat)(W:List Wd)(c:Nat)(r:Px Ru)(e:Ending)(w':World):Prop:=MkO (some pb) w w'/\∃ (x:RX) (nm sl pv ev av bv:Value),e=.returned (.agg x.cells.toArray)/\ROwn w' w.heap.size x/\MB w' pb g W c (stS r) (RM nm sl pv ev av bv)/\∀ y l,r=.ok (y,l)->y=x.ru
structure RpAt (w wr:World) (pb g rb:Nat) (W:List Wd) (c:Nat) (nm:ByteArray) (sl:Int) (sx:Ps) (pa:Option Addr) (pc:Nat) (MP:List (Pt × Value)):Prop where
 mo:MkO (some pb) w wr
 mb:MB wr pb g W c sx (RM (.string nm) (.int .i64 sl) (.slice pa MP.length pc) (.slice none 0 0) (.slice none 0 0) (.int .i64 0))
 pts:NRow ptK wr w.heap.size pa pc MP
 rq:wr.heap[rb]?=some (.cells (ruL ⟨#[]⟩ 0 nilV nilV nilV).toArray 39 (0,0))
theorem RpAt.mko{w wr G:World}{pb g rb:Nat}{W:List Wd}{c:Nat}{nm:ByteArray}{sl:Int}{sx E:Ps}{pa:Option Addr}{pc:Nat}{MP:List (Pt × Value)}(h:RpAt w wr pb g rb W c nm sl sx pa pc MP)(hm:MkO (some pb) wr G)(hb:MB G pb g W c E (RM (.string nm) (.int .i64 sl) (.slice pa MP.length pc) (.slice none 0 0) (.slice none 0 0) (.int .i64 0)))(h1:pb<w.heap.size)(h2:pb≠rb):RpAt w G pb g rb W c nm sl E pa pc MP:=
 ⟨h.mo.trans hm,hb,h.pts.mko hm h1,(hm.block rb (zab h.rq) (fun e=>h2 (by injection e))).trans h.rq⟩
theorem RpAt.below{w wr E:World}{pb g rb:Nat}{W:List Wd}{c:Nat}{nm:ByteArray}{sl:Int}{sx:Ps}{pa:Option Addr}{pc:Nat}{MP:List (Pt × Value)}(h:RpAt w wr pb g rb W c nm sl sx pa pc MP)(hb:Below wr.heap.size wr E):RpAt w E pb g rb W c nm sl sx pa pc MP:=
 ⟨h.mo.trans (MkO.of_below hb),h.mb.below hb,h.pts.below hb,(hb.block rb (zab h.rq)).trans h.rq⟩
def lenQ(pb j:Nat)(w:World):Nat:=match w.cell? ⟨pb,j,none⟩ with
 | some v=>za6 v
 | none=>0
structure RaAt (w wr:World) (pb g rb:Nat) (W:List Wd) (c:Nat) (nm:ByteArray) (sl:Int) (pa:Option Addr) (pc:Nat) (MP:List (Pt × Value)) (sx:Ps) (es:ES) (ea:Option Addr) (ec:Nat) (bg:Int) (aa:Option Addr) (ac:Nat) (MA:List (Ac × Value)):Prop where
 mo:MkO (some pb) w wr
 st:MX wr w.heap.size pb g W c sx (.string nm) (.int .i64 sl) (.slice pa MP.length pc) (.slice aa MA.length ac) es ea ec bg
 pts:NRow ptK wr w.heap.size pa pc MP
 acs:NRow acK wr w.heap.size aa ac MA
 rq:wr.heap[rb]?=some (.cells (ruL ⟨#[]⟩ 0 nilV nilV nilV).toArray 39 (0,0))
 hk:∀ l,sx=.ok l->es.1.length<=es.2/\es.2<=60
theorem RaAt.mko{w wr I:World}{pb g rb:Nat}{W:List Wd}{c:Nat}{nm:ByteArray}{sl:Int}{pa:Option Addr}{pc:Nat}{MP:List (Pt × Value)}{sx E:Ps}{es:ES}{ea:Option Addr}{ec:Nat}{bg:Int}{aa:Option Addr}{ac:Nat}{MA:List (Ac × Value)}(h:RaAt w wr pb g rb W c nm sl pa pc MP sx es ea ec bg aa ac MA)(hm:MkO (some pb) wr I)(hb:MB I pb g W c E (RM (.string nm) (.int .i64 sl) (.slice pa MP.length pc) (.slice ea es.1.length ec) (.slice aa MA.length ac) (.int .i64 bg)))(G:∀ l,E=.ok l->∃ l',sx=.ok l')(h2:pb≠rb):RaAt w I pb g rb W c nm sl pa pc MP E es ea ec bg aa ac MA:=
 ⟨h.mo.trans hm,h.st.mko hm hb G,h.pts.mko hm h.st.lt,h.acs.mko hm h.st.lt,(hm.block rb (zab h.rq) (fun e=>h2 (by injection e))).trans h.rq,fun l e=>by obtain ⟨l',O⟩:=G l e;exact h.hk l' O⟩
theorem RaAt.below{w wr E:World}{pb g rb:Nat}{W:List Wd}{c:Nat}{nm:ByteArray}{sl:Int}{pa:Option Addr}{pc:Nat}{MP:List (Pt × Value)}{sx:Ps}{es:ES}{ea:Option Addr}{ec:Nat}{bg:Int}{aa:Option Addr}{ac:Nat}{MA:List (Ac × Value)}(h:RaAt w wr pb g rb W c nm sl pa pc MP sx es ea ec bg aa ac MA)(hb:Below wr.heap.size wr E):RaAt w E pb g rb W c nm sl pa pc MP sx es ea ec bg aa ac MA:=
 ⟨h.mo.trans (MkO.of_below hb),h.st.below hb,h.pts.below hb,h.acs.below hb,(hb.block rb (zab h.rq)).trans h.rq,h.hk⟩
theorem RaAt.mkx{w wr G:World}{pb g rb:Nat}{W:List Wd}{c:Nat}{nm:ByteArray}{sl:Int}{pa:Option Addr}{pc:Nat}{MP:List (Pt × Value)}{sx E:Ps}{es es':ES}{ea ea':Option Addr}{ec ec':Nat}{bg bg':Int}{aa:Option Addr}{ac:Nat}{MA:List (Ac × Value)}(h:RaAt w wr pb g rb W c nm sl pa pc MP sx es ea ec bg aa ac MA)(hm:MkX pb (obE es ea ec) wr G)(hs:MX G w.heap.size pb g W c E (.string nm) (.int .i64 sl) (.slice pa MP.length pc) (.slice aa MA.length ac) es' ea' ec' bg')(h2:pb≠rb)(hk:∀ l,E=.ok l->es'.1.length<=es'.2/\es'.2<=60):RaAt w G pb g rb W c nm sl pa pc MP E es' ea' ec' bg' aa ac MA:=
 ⟨h.mo.mkx hm (fun k hk=>(h.st.ow.lt k hk).1),hs,h.pts.mkx hm h.st.lt h.st.row (by decide) (by decide),h.acs.mkx hm h.st.lt h.st.row (by decide) (by decide),(hm.block rb (zab h.rq) h2 (fun e=>by
  obtain ⟨cs,e1⟩:=h.st.row rb e
  exact zg5 e1 h.rq (by decide))).trans h.rq,hk⟩
theorem zpy{es es':ES}{s:Ps}{v:Ac}(hk:∀ l,s=.ok l->es.1.length<=es.2/\es.2<=60)(hv:∀ y l,onS s (actM es)=.ok (y,l)->y=(v,es')):∀ l,stS (onS s (actM es))=.ok l->es'.1.length<=es'.2/\es'.2<=60:=by
 intro l hl
 cases s with
 | error f=>cases hl
 | ok G=>
  obtain ⟨h1,h2⟩:=hk G rfl
  cases E:actM es G with
  | error f=>
   simp only[onS,E]at hl
   cases hl
  | ok q=>
   obtain ⟨y,l1⟩:=q;have e:=hv y l1 E;subst e;obtain ⟨x,l2,_,h⟩:=zaS E;exact ziv h1 h2 h
theorem zg3(w:World)(pb g:Nat)(W:List Wd)(c:Nat)(s:Ps)(cj cw ck cz cL cA:Value)(h:MB w pb g W c s (RM cj cw ck cz cL cA)):Calls Tryz.prog 23 #[.pointer (some ⟨pb,0,none⟩)] w (MRPost w pb g W c (onS s ruM)):=by
 have dB:=mfield2;have dD:=mfield3;have HM:=hidX h;have af:=h.lt;have b0:=h.glt;clear h;go_enter Tryz.func23,Tryz.ntmps23;go_upto_region 1 with fail
 refine zaf ?_;intro w1 ca cc;have cZ:w.heap.size<w1.heap.size:=zab cc;have bj:=hidX (zbw w1 pb g W c s _ 1 40 rel40 (by decide) (by decide) (HM.out.below ca));have cI:=hidX cc;have M1:=hidX (MkO.of_below ca:MkO (some pb) w w1);clear ca cc;go_upto_region 2 with (first | (go_at_call 56;refine bj.out.mono ?_;rintro e w2 ⟨bC,⟨y,da,_⟩,b5⟩;obtain rfl:e=.returned (wdA y):=da;unfold wdA) | fail);obtain ⟨s1,b4⟩:∃ s1,s1=stS (onS s (zai 40)):=⟨_,rfl⟩
 rw[<- b4]at b5;have dp:=hidX b4;have M2:=hidX (M1.out.trans bC);have cu:=hidX b5;have dF:=bC.rest.size;have bW:=hidX ((bC.block w.heap.size cZ (fun e=>by injection e;omega)).trans cI.out);have aP:=zHA w2;have bu:=hidX (zfc (w2.alloc (.cells #[.string ⟨#[114,117,108,101]⟩] 9)) pb g w2.heap.size 1 W c s1 _ 5 ruT (by decide) (by decide) (zqf _) (by omega) (by simp) (by decide) (cu.out.below (aP.out _)));clear bC b5 bj cI M1 b4;go_upto_region 3 with (first | (go_at_call 57;refine bu.out.mono ?_;rintro e w3 ⟨bN,⟨t,c1,_⟩,aX⟩;obtain rfl:e=.returned (.string (mkS t)):=c1) | fail);obtain ⟨s2,a6⟩:∃ s2,s2=stS (onS s1 (oneM 5 ruT)):=⟨_,rfl⟩
 rw[<- a6]at aX;have df:=hidX a6;have s3:=bN.rest.size;simp at s3;have M3:=hidX ((M2.out.trans (MkO.of_below (aP.out _))).trans bN);have bX:=hidX ((bN.block w.heap.size (by simp;omega) (fun e=>by injection e;omega)).trans (((aP.out _).block w.heap.size (by omega)).trans bW.out));have cD:=hidX aX;have c9:w3.cell? ⟨pb,9,none⟩=some cA:=aX.cellR (j:=5) rfl;have z9:=aX.frozR 9;have dA:=aX.lt;clear bN aX bu aP M2 cu bW a6;go_upto_region 4 with fail
 refine zb5 ?_;intro w4 b8;have ao:=hidX (cD.out.setR (j:=5) b8);have m4:MkO (some pb) w3 w4:=by rw[b8];exact MkO.set _
 have M4:=hidX (M3.out.trans m4);have bR:=hidX ((m4.block w.heap.size (by omega) (fun e=>by injection e;omega)).trans bX.out);have s4:=m4.rest.size;obtain ⟨dk,aK⟩:∃ cs,w4.heap[pb]?=some (.cells cs 64 (0,0)):=by
  obtain ⟨k,cd,pos,hb,_⟩:=ao.out.st;exact ⟨_,hb⟩
 have db:9<=dk.size:=by
  obtain ⟨k,cd,pos,hb,_⟩:=ao.out.st;rw[hb]at aK;injection aK with aK;injection aK with aK _ _;rw[<- aK];simp[RM]
 have d4:w4.cell? ⟨pb,4,none⟩=some cj:=ao.out.cellR (j:=0) rfl;have d5:w4.cell? ⟨pb,5,none⟩=some cw:=ao.out.cellR (j:=1) rfl;have d6:w4.cell? ⟨pb,6,none⟩=some ck:=ao.out.cellR (j:=2) rfl;have d7:w4.cell? ⟨pb,7,none⟩=some cz:=ao.out.cellR (j:=3) rfl;have d8:w4.cell? ⟨pb,8,none⟩=some cL:=ao.out.cellR (j:=4) rfl;have f4:=ao.out.frozR 4;have f5:=ao.out.frozR 5;have f6:=ao.out.frozR 6;have f7:=ao.out.frozR 7;have f8:=ao.out.frozR 8;have dH:=ao.out.lt;clear b8 m4 c9 z9 cD M3 bX;go_upto_region 5 with fail
 refine zlH aK (o:=4) (by omega) ?_;intro w5 cH a1;have cr:=hidX (show MB w5 pb g W c s2 (RM (.string ⟨#[]⟩) (.int .i64 0) (.slice none 0 0) (.slice none 0 0) (.slice none 0 0) (.int .i64 0)) from MB.clear (by simpa[RM] using ao.out) a1 (fun cs hc=>by
  rw[aK]at hc;injection hc with hc;injection hc with hc _ _;subst hc;exact cH))
 have M5:=hidX (M4.out.trans a1.mko);have s5:w4.heap.size<=w5.heap.size:=Nat.le_of_eq a1.size.symm;have bQ:=hidX ((a1.block w.heap.size (by omega)).trans bR.out);have cM:=hidX (zbw w5 pb g W c s2 _ 5 97 rel97 (by decide) (by decide) cr.out);clear cH a1 aK db d4 d5 d6 d7 d8 f4 f5 f6 f7 f8 ao M4 bR;go_upto_region 6 with (first | (go_at_call 56;refine cM.out.mono ?_;rintro e w6 ⟨bO,⟨yn,dt,cv⟩,aW⟩;obtain rfl:e=.returned (wdA yn):=dt;unfold wdA;have c4:w6.cell? ⟨pb,4,none⟩=some (.string ⟨#[]⟩):=aW.cellR (j:=0) rfl;have z4:=aW.frozR 4;have dI:=aW.lt) | fail);refine zb5 ?_;intro w7 b7;obtain ⟨bH,bm⟩:∃ bH,bH=stS (onS s2 (zai 97)):=⟨_,rfl⟩
 rw[<- bm]at aW;have dq:=hidX bm;have dg:=hidX cv;have cO:=hidX (aW.setR (j:=0) b7);have m7:MkO (some pb) w6 w7:=by rw[b7];exact MkO.set _
 have M7:=hidX ((M5.out.trans bO).trans m7);have s6:=bO.rest.size;have s7:=m7.rest.size;have bZ:=hidX ((m7.block w.heap.size (by omega) (fun e=>by injection e;omega)).trans ((bO.block w.heap.size (by omega) (fun e=>by injection e;omega)).trans bQ.out));have cP:=hidX (zbw w7 pb g W c bH _ 3 48 rel48 (by decide) (by decide) cO.out);clear b7 bO aW m7 c4 z4 cv bm cM cr M5 bQ
 go_upto_block 0 with (first | (go_at_call 56;refine cP.out.mono ?_;rintro e w8 ⟨bG,⟨ys,cX,cR⟩,aZ⟩;obtain rfl:e=.returned (wdA ys):=cX;unfold wdA;have c5:w8.cell? ⟨pb,5,none⟩=some (.int .i64 0):=aZ.cellR (j:=1) rfl;have z5:=aZ.frozR 5;have dy:=aZ.lt) | fail)
 refine zb5 ?_;intro w9 b1;obtain ⟨ay,bt⟩:∃ ay,ay=stS (onS bH (zai 48)):=⟨_,rfl⟩
 rw[<- bt]at aZ;have dl:=hidX bt;have dm:=hidX cR;have cT:=hidX (show MB w9 pb g W c ay (RM (.string (mkS yn.text)) (.int .i64 ys.num) (.slice none 0 0) (.slice none 0 0) (.slice none 0 0) (.int .i64 0)) from by simpa[RM] using aZ.setR (j:=1) b1);have m9:MkO (some pb) w8 w9:=by rw[b1];exact MkO.set _
 have M9:=hidX ((M7.out.trans bG).trans m9);have s8:=bG.rest.size;have s9:=m9.rest.size;have bT:=hidX ((m9.block w.heap.size (by omega) (fun e=>by injection e;omega)).trans ((bG.block w.heap.size (by omega) (fun e=>by injection e;omega)).trans bZ.out));clear b1 bG aZ m9 c5 z5 cR bt cP cO M7 bZ;have bP:=hidX (show RpAt w w9 pb g w.heap.size W c (mkS yn.text) ys.num ay none 0 [] from ⟨M9.out,cT.out,NRow.nil _ _ _,bT.out⟩);obtain ⟨ad,bi⟩:∃ n,n=mkS yn.text:=⟨_,rfl⟩
 obtain ⟨ab,bb⟩:∃ n,n=ys.num:=⟨_,rfl⟩
 rw[<- bi,<- bb]at bP;have dd:=hidX bi;have di:=hidX bb;clear M9 cT bT bi bb
 go_cut [] (fun wx=>∃ sx pa pc MP,RpAt w wx pb g w.heap.size W c ad ab sx pa pc MP/\onS ay (pTo 6)=preL (MP.map Prod.fst) (andP (onS sx (oneM 6 toT)) fun _ l=>.ok ([],l)))
 case first=>
  go_wp2_with fail
  go_loopw [] (fun wr=>∃ (sx:Ps) (pa:Option Addr) (pc:Nat) (MP:List (Pt × Value)),MP.length<=6/\RpAt w wr pb g w.heap.size W c ad ab sx pa pc MP/\onS ay (pTo 6)=preL (MP.map Prod.fst) (onS sx (pTo (6 - MP.length)))) (fun wr=>6 - lenQ pb 6 wr)
  case atStart=>exact ⟨ay,none,0,[],by simp,bP.out,by unfold preL;cases onS ay (pTo 6) <;> rfl⟩
  case round=>
   obtain ⟨sx,pa,pc,MP,de,aw,aS⟩:=hrel;have RP:=hidX aw;have PL:=hidX aS;have c6:wr.cell? ⟨pb,6,none⟩=some (.slice pa MP.length pc):=aw.mb.cellR (j:=2) rfl;have bw:Hid (lenQ pb 6 wr=MP.length):=show _=_ from by unfold lenQ;rw[c6];rfl
   have ar:=hidX (zch wr pb g W c sx _ aw.mb);have dh:=aw.mb.lt;obtain ⟨K,hK⟩:∃ K,K=zbx sx:=⟨_,rfl⟩
   unfold zco at ar;rw[<- hK]at ar;clear aw aS bP;by_cases hk:K=1
   ·have bn:Hid (zbx sx=1):=show _=_ from by rw[<- hK];exact hk
    have e1:(K==1)=true:=by simp[hk]
    clear hK hk;by_cases h6:MP.length=6
    ·have HF:=hidX (fun u (hu:MB u pb g W c (zaD sx) (RM (.string ad) (.int .i64 ab) (.slice pa MP.length pc) (.slice none 0 0) (.slice none 0 0) (.int .i64 0)))=>zbY u pb g W c (zaD sx) _ 4 (by decide) hu);have HE:Hid (onS ay (pTo 6)=preL (MP.map Prod.fst) (andP (onS (zdf 4 (zaD sx)) (oneM 6 toT)) fun _ l=>.ok ([],l))):=show _=_ from by rw[PL.out,h6,show 6 - 6=0 from rfl,zoJ RP.out.mb bn.out]
     have dr:(6:Int)<=(MP.length:Int):=by omega
     clear h6;go_wp2_with (first | (go_at_call 21;refine ar.out.mono ?_;rintro e aF ⟨rfl,aB,ah⟩;have c7:aF.cell? ⟨pb,6,none⟩=some (.slice pa MP.length pc):=ah.cellR (j:=2) rfl;have bV:=ah.lt) | (go_at_call 22;refine (HF.out _ ah).mono ?_;rintro e cC ⟨rfl,aV,aU⟩) | fail);go_meet;exact ⟨_,pa,pc,MP,(RP.out.mko aB ah af (by omega)).mko aV aU af (by omega),HE.out⟩
    have dr:¬ (6:Int)<=(MP.length:Int):=by omega
    have cE:=hidX (fun u (hu:MB u pb g W c (zaD sx) (RM (.string ad) (.int .i64 ab) (.slice pa MP.length pc) (.slice none 0 0) (.slice none 0 0) (.int .i64 0)))=>zjO u pb g W c (zaD sx) _ hu);have bz:=hidX (fun v hv=>zpD (n:=6 - (MP.length+1)) RP.out.mb bn.out v hv (MP.map Prod.fst));go_upto_region 10 with (first | (go_at_call 21;refine ar.out.mono ?_;rintro e aF ⟨rfl,aB,ah⟩;have c7:aF.cell? ⟨pb,6,none⟩=some (.slice pa MP.length pc):=ah.cellR (j:=2) rfl;have bV:=ah.lt) | fail);have aO:=hidX (RP.out.mko aB ah af (by omega));have dG:=aB.rest.size;clear aB ah ar c6;refine wp_region_noPanic ?_;refine wp_region_held_drew (S:=(fun _=>True)) (by kernel_rfl) ?_ (fun E=>?_)
    ·(try dsimp only)
     all_goals trivial
    refine tk 0 E ?_;(try simp only[pA,pZ,pS]);refine tk 1 E ?_;(try simp only[pA,pZ,pS]);refine tk 2 E ?_;(try simp only[pA,pZ,pS]);refine tk 3 E ?_;(try simp only[pA,pZ,pS]);refine tk 4 E ?_;(try simp only[pA,pZ,pS]);refine tk 6 E ?_;(try simp only[pA,pZ,pS]);refine r2 5 7 (fun K hK=>?_) fun K hK=>?_
    ·go_simp;refine hK.out _ _ (by (try dsimp only);all_goals trivial) fun I=>?_;replace E:=I;clear hK K I;(try simp only[pA,pZ,pS]);refine r1 7 fun K hK=>?_;go_simp;(go_at_call 58;refine (cE.out _ (aO.out.below ((Below.refl _ _).drew)).mb).mono ?_;rintro e U ⟨Z,⟨v,⟨va,vc,rfl,aR⟩,bo⟩,O⟩;unfold ptP;have bM:=Z.rest.size;simp at bM;have g6:U.cell? ⟨pb,6,none⟩=some (.slice pa MP.length pc):=O.cellR (j:=2) rfl);refine hK.out _ _ (by (try dsimp only);all_goals trivial) fun I=>?_;replace E:=I;clear hK K I;(try simp only[pA,pZ,pS]);refine r1 8 fun K hK=>?_;go_simp;have aj:=zHA U;have cp:∀ o',(U.alloc o').cell? ⟨pb,6,none⟩=some (.slice pa MP.length pc):=fun o'=>zaa (aj.out o') g6;refine hK.out _ _ (by (try dsimp only);all_goals trivial) fun I=>?_;replace E:=I;clear hK K I;(try simp only[pA,pZ,pS]);have ak:=hidX ((aO.out.below ((Below.refl _ _).drew)).mko Z O af (by omega));refine r1 9 fun K hK=>?_;(refine zaq (by rfl) (.tmp 47) (.tmp 50) 35 (by rfl) w.heap.size 78 _ 3 48 Tryz.underlying35 zf4 (by rfl) (by omega) _ MP.length _ (by rfl) (ak.out.below (aj.out _)).pts.row (some ⟨_,0,none⟩) 1 1 (by rfl) (ptP v (.slice va v.terms.length vc)) (by rfl) (fun e=>by cases e) (zas _ _ _ _ (by simp)) (zef _ _ _ _) (by unfold maxLen;omega) (by omega) (by have:=ak.out.mo.rest.size;simp;omega) ?_;intro bl bB aq aA ae cB);refine hK.out _ _ (by (try dsimp only);all_goals trivial) fun I=>?_;replace E:=I;clear hK K I;(try simp only[pA,pZ,pS]);have X:∀ k,(Value.slice pa MP.length pc).ownBlock=some k->w.heap.size<=k:=fun k hk=>(ak.out.pts.rlt k hk).1;have SA:=hidX (fun o'=>ak.out.below (aj.out o'));have b2:=hidX (NRow.more (aO.out.below ((Below.refl _ _).drew)).pts (SA.out _).pts aR (Nat.le_refl _) (by have:=aO.out.mo.rest.size;simpa using this) ⟨va,vc,rfl⟩ (zao aR (aj.out _)) ae.out aA.out (by decide));have aJ:=hidX ((SA.out _).mb.blocks (ae.out.block pb (SA.out _).mb.lt (fun e=>by have:=X pb e.symm;omega)) (ae.out.block g (SA.out _).mb.glt (fun e=>by have:=X g e.symm;omega)));have ax:=hidX (zaL (SA.out _).rq ae.out (SA.out _).pts.rty (by decide));have cg:=hidX ((SA.out _).mo.grown ae.out X);have f6:aq.cell? ⟨pb,6,none⟩=some (.slice pa MP.length pc):=aJ.out.cellR (j:=2) rfl;have z6:=aJ.out.frozR 6;have bU:=aJ.out.lt;refine tk 10 E ?_;(try simp only[pA,pZ,pS]);refine tk 11 E ?_;(try simp only[pA,pZ,pS]);refine tk 12 E ?_;(try simp only[pA,pZ,pS]);refine r1 13 fun K hK=>?_;go_simp;refine hK.out _ _ (by (try dsimp only);all_goals trivial) fun I=>?_;replace E:=I;clear hK K I;(try dsimp only);refine wpAnyH_done (by kernel_rfl) ?_ _;refine NoPanic.normal ?_;clear E;refine zb5 ?_;intro G aC;have bA:=aJ.out.setR (j:=2) aC;have aM:MkO (some pb) aq G:=by rw[aC];exact MkO.set _
     have al:=hidX (show RpAt w G pb g w.heap.size W c ad ab (stS (onS (zaD sx) patM)) bl bB (MP ++ [(v,.slice va v.terms.length vc)]) from ⟨cg.out.trans aM,by simpa[RM] using bA,b2.out.mko aM af,(aM.block w.heap.size (zab ax.out) (fun e=>by injection e;omega)).trans ax.out⟩);have bf:Hid (lenQ pb 6 G=MP.length+1):=show _=_ from by unfold lenQ;rw[show G.cell? ⟨pb,6,none⟩=some _ from al.out.mb.cellR (j:=2) rfl];simp[za6]
     have bp:onS ay (pTo 6)=preL ((MP ++ [(v,Value.slice va v.terms.length vc)]).map Prod.fst) (onS (stS (onS (zaD sx) patM)) (pTo (6 - (MP ++ [(v,Value.slice va v.terms.length vc)]).length))):=by
      rw[PL.out,show 6 - MP.length=(6 - (MP.length+1))+1 by omega,bz.out v bo];simp
     clear aC aM bA f6 z6;go_wp2_with fail
     go_roundw
     case rel=>exact ⟨_,bl,bB,MP ++ [(v,.slice va v.terms.length vc)],by simp;omega,al.out,bp⟩
     case measure=>
      change 6 - lenQ pb 6 G<6 - lenQ pb 6 wr;rw[bf.out,bw.out];omega
    go_simp;(go_at_call 58;refine (cE.out _ (aO.out.below ((Below.refl _ _).drew)).mb).mono ?_;rintro e U ⟨Z,⟨v,⟨va,vc,rfl,aR⟩,bo⟩,O⟩;unfold ptP;have bM:=Z.rest.size;simp at bM;have g6:U.cell? ⟨pb,6,none⟩=some (.slice pa MP.length pc):=O.cellR (j:=2) rfl);refine hK.out _ _ (by (try dsimp only);all_goals trivial) fun I=>?_;replace E:=I;clear hK K I;(try simp only[pA,pZ,pS]);refine r2 5 8 (fun K hK=>?_) fun K hK=>?_
    focus
     go_simp;refine hK.out _ _ (by (try dsimp only);all_goals trivial) fun I=>?_;replace E:=I;clear hK K I;(try simp only[pA,pZ,pS]);refine r1 8 fun K hK=>?_;go_simp;have aj:=zHA U;have cp:∀ o',(U.alloc o').cell? ⟨pb,6,none⟩=some (.slice pa MP.length pc):=fun o'=>zaa (aj.out o') g6
    rotate_left
    focus
     go_simp;have aj:=zHA U;have cp:∀ o',(U.alloc o').cell? ⟨pb,6,none⟩=some (.slice pa MP.length pc):=fun o'=>zaa (aj.out o') g6;refine hK.out _ _ (by (try dsimp only);all_goals trivial) fun I=>?_;replace E:=I;clear hK K I;(try simp only[pA,pZ,pS]);refine r1 5 fun K hK=>?_;go_simp
    rotate_left
    all_goals
     refine hK.out _ _ (by (try dsimp only);all_goals trivial) fun I=>?_;replace E:=I;clear hK K I;(try simp only[pA,pZ,pS]);have ak:=hidX ((aO.out.below ((Below.refl _ _).drew)).mko Z O af (by omega));refine r1 9 fun K hK=>?_;(refine zaq (by rfl) (.tmp 47) (.tmp 50) 35 (by rfl) w.heap.size 78 _ 3 48 Tryz.underlying35 zf4 (by rfl) (by omega) _ MP.length _ (by rfl) (ak.out.below (aj.out _)).pts.row (some ⟨_,0,none⟩) 1 1 (by rfl) (ptP v (.slice va v.terms.length vc)) (by rfl) (fun e=>by cases e) (zas _ _ _ _ (by simp)) (zef _ _ _ _) (by unfold maxLen;omega) (by omega) (by have:=ak.out.mo.rest.size;simp;omega) ?_;intro bl bB aq aA ae cB);refine hK.out _ _ (by (try dsimp only);all_goals trivial) fun I=>?_;replace E:=I;clear hK K I;(try simp only[pA,pZ,pS]);have X:∀ k,(Value.slice pa MP.length pc).ownBlock=some k->w.heap.size<=k:=fun k hk=>(ak.out.pts.rlt k hk).1;have SA:=hidX (fun o'=>ak.out.below (aj.out o'));have b2:=hidX (NRow.more (aO.out.below ((Below.refl _ _).drew)).pts (SA.out _).pts aR (Nat.le_refl _) (by have:=aO.out.mo.rest.size;simpa using this) ⟨va,vc,rfl⟩ (zao aR (aj.out _)) ae.out aA.out (by decide));have aJ:=hidX ((SA.out _).mb.blocks (ae.out.block pb (SA.out _).mb.lt (fun e=>by have:=X pb e.symm;omega)) (ae.out.block g (SA.out _).mb.glt (fun e=>by have:=X g e.symm;omega)));have ax:=hidX (zaL (SA.out _).rq ae.out (SA.out _).pts.rty (by decide));have cg:=hidX ((SA.out _).mo.grown ae.out X);have f6:aq.cell? ⟨pb,6,none⟩=some (.slice pa MP.length pc):=aJ.out.cellR (j:=2) rfl;have z6:=aJ.out.frozR 6;have bU:=aJ.out.lt;refine tk 10 E ?_;(try simp only[pA,pZ,pS]);refine tk 11 E ?_;(try simp only[pA,pZ,pS]);refine tk 12 E ?_;(try simp only[pA,pZ,pS]);refine r1 13 fun K hK=>?_;go_simp;refine hK.out _ _ (by (try dsimp only);all_goals trivial) fun I=>?_;replace E:=I;clear hK K I;(try dsimp only);refine wpAnyH_done (by kernel_rfl) ?_ _;refine NoPanic.normal ?_;clear E;refine zb5 ?_;intro G aC;have bA:=aJ.out.setR (j:=2) aC;have aM:MkO (some pb) aq G:=by rw[aC];exact MkO.set _
     have al:=hidX (show RpAt w G pb g w.heap.size W c ad ab (stS (onS (zaD sx) patM)) bl bB (MP ++ [(v,.slice va v.terms.length vc)]) from ⟨cg.out.trans aM,by simpa[RM] using bA,b2.out.mko aM af,(aM.block w.heap.size (zab ax.out) (fun e=>by injection e;omega)).trans ax.out⟩);have bf:Hid (lenQ pb 6 G=MP.length+1):=show _=_ from by unfold lenQ;rw[show G.cell? ⟨pb,6,none⟩=some _ from al.out.mb.cellR (j:=2) rfl];simp[za6]
     have bp:onS ay (pTo 6)=preL ((MP ++ [(v,Value.slice va v.terms.length vc)]).map Prod.fst) (onS (stS (onS (zaD sx) patM)) (pTo (6 - (MP ++ [(v,Value.slice va v.terms.length vc)]).length))):=by
      rw[PL.out,show 6 - MP.length=(6 - (MP.length+1))+1 by omega,bz.out v bo];simp
     clear aC aM bA f6 z6;go_wp2_with fail
     go_roundw
     case rel=>exact ⟨_,bl,bB,MP ++ [(v,.slice va v.terms.length vc)],by simp;omega,al.out,bp⟩
     case measure=>
      change 6 - lenQ pb 6 G<6 - lenQ pb 6 wr;rw[bf.out,bw.out];omega
   ·have HE:Hid (onS ay (pTo 6)=preL (MP.map Prod.fst) (andP (onS (zaD sx) (oneM 6 toT)) fun _ l=>.ok ([],l))):=show _=_ from by rw[PL.out,zrx RP.out.mb (by rw[<- hK];exact hk)]
    have e1:(K==1)=false:=by simp[hk]
    clear hK hk;go_wp2_with (first | (go_at_call 21;refine ar.out.mono ?_;rintro e aF ⟨rfl,aB,ah⟩) | fail);go_meet;exact ⟨_,pa,pc,MP,RP.out.mko aB ah af (by omega),HE.out⟩
 case rest=>
  obtain ⟨sx,pa,pc,MP,aw,aS⟩:=hcut;obtain ⟨aF,rfl⟩:∃ v,v=wc:=⟨wc,rfl⟩
  have RP:=hidX aw;have PL:=hidX aS;have aP:=zHA aF;have bV:=aw.mb.lt;have dw:=aw.mb.glt;have du:=aw.mo.rest.size;have bu:=hidX (zfc (aF.alloc (.cells #[.string ⟨#[61,62]⟩] 9)) pb g aF.heap.size 1 W c sx _ 6 toT (by decide) (by decide) (zq6 _) (by omega) (by simp) (by decide) (aw.mb.below (aP.out _)));clear aw aS bP
  go_upto_block 2 with (first | (go_at_call 57;refine bu.out.mono ?_;rintro e cC ⟨aV,⟨cW,cV,_⟩,aU⟩;obtain rfl:e=.returned (.string (mkS cW)):=cV) | fail)
  have aY:=hidX ((RP.out.below (aP.out _)).mko aV aU af (by omega));have bK:=hidX (show RaAt w cC pb g w.heap.size W c ad ab pa pc MP (stS (onS sx (oneM 6 toT))) ([],0) none 0 0 none 0 [] from ⟨aY.out.mo,⟨aY.out.mb,fun _ _=>rfl,World.ownsRow_nil _ _ _ _,af,b0,aY.out.mo.rest.size⟩,aY.out.pts,NRow.nil _ _ _,aY.out.rq,fun _ _=>by simp⟩);clear aV aU bu aP aY RP;obtain ⟨s5,b3⟩:∃ s5,s5=stS (onS sx (oneM 6 toT)):=⟨_,rfl⟩
  rw[<- b3]at bK;have cY:=hidX b3;clear b3
  go_cut [] (fun wx=>∃ sy es ea ec bg aa ac MA,RaAt w wx pb g w.heap.size W c ad ab pa pc MP sy es ea ec bg aa ac MA/\onS s5 (aTo 8 ([],0))=preE (MA.map Prod.fst) (andP (onS sy (zai 41)) fun _ l=>.ok (([],es),l)))
  case first=>
   go_wp2_with fail
   go_loopw [] (fun wr=>∃ (sy:Ps) (es:ES) (ea:Option Addr) (ec:Nat) (bg:Int) (aa:Option Addr) (ac:Nat) (MA:List (Ac × Value)),MA.length<=8/\RaAt w wr pb g w.heap.size W c ad ab pa pc MP sy es ea ec bg aa ac MA/\onS s5 (aTo 8 ([],0))=preE (MA.map Prod.fst) (onS sy (aTo (8 - MA.length) es))) (fun wr=>8 - lenQ pb 8 wr)
   case atStart=>exact ⟨s5,([],0),none,0,0,none,0,[],by simp,bK.out,by unfold preE;cases onS s5 (aTo 8 ([],0)) <;> rfl⟩
   case round=>
    obtain ⟨sy,es,ea,ec,bg,aa,ac,MA,de,aG,aS⟩:=hrel;have RA:=hidX aG;have PA:=hidX aS;have c8:wr.cell? ⟨pb,8,none⟩=some (.slice aa MA.length ac):=aG.st.mb.cellR (j:=4) rfl;have bw:Hid (lenQ pb 8 wr=MA.length):=show _=_ from by unfold lenQ;rw[c8];rfl
    have ar:=hidX (zch wr pb g W c sy _ aG.st.mb);have dh:=aG.st.mb.lt;obtain ⟨K,hK⟩:∃ K,K=zbx sy:=⟨_,rfl⟩
    unfold zco at ar;rw[<- hK]at ar;clear aG aS bK;by_cases hk:K=1
    ·have bn:Hid (zbx sy=1):=show _=_ from by rw[<- hK];exact hk
     have e1:(K==1)=true:=by simp[hk]
     clear hK hk;by_cases h8:MA.length=8
     ·have HF:=hidX (fun u (hu:MB u pb g W c (zaD sy) (RM (.string ad) (.int .i64 ab) (.slice pa MP.length pc) (.slice ea es.1.length ec) (.slice aa MA.length ac) (.int .i64 bg)))=>zbY u pb g W c (zaD sy) _ 4 (by decide) hu);have HE:Hid (onS s5 (aTo 8 ([],0))=preE (MA.map Prod.fst) (andP (onS (zdf 4 (zaD sy)) (zai 41)) fun _ l=>.ok (([],es),l))):=show _=_ from by rw[PA.out,h8,show 8 - 8=0 from rfl,zoS RA.out.st.mb bn.out]
      have dn:(8:Int)<=(MA.length:Int):=by omega
      clear h8;go_wp2_with (first | (go_at_call 21;refine ar.out.mono ?_;rintro e U ⟨rfl,Z,O⟩;have c9:U.cell? ⟨pb,8,none⟩=some (.slice aa MA.length ac):=O.cellR (j:=4) rfl;have cS:=O.lt) | (go_at_call 22;refine (HF.out _ O).mono ?_;rintro e aq ⟨rfl,au,ag⟩) | fail);go_meet;exact ⟨_,es,ea,ec,bg,aa,ac,MA,(RA.out.mko Z O zdu (by omega)).mko au ag (fun l e=>by cases hl:zaD sy with | error f=>rw[hl]at e;cases e | ok l'=>exact ⟨l',rfl⟩) (by omega),HE.out⟩
     have dn:¬ (8:Int)<=(MA.length:Int):=by omega
     have ch:=hidX (fun u (hu:MX u w.heap.size pb g W c (zaD sy) (.string ad) (.int .i64 ab) (.slice pa MP.length pc) (.slice aa MA.length ac) es ea ec bg)=>zkC u w.heap.size pb g W c (zaD sy) _ _ _ _ es ea ec bg hu (fun l e=>by obtain ⟨l',e'⟩:=zdu l e;exact RA.out.hk l' e'));have bz:=hidX (fun v dc hv=>zpm (n:=8 - (MA.length+1)) (es:=es) RA.out.st.mb bn.out v dc hv (MA.map Prod.fst));have ct:=hidX (fun (v:Ac) (es':ES)=>zpy (s:=zaD sy) (es:=es) (v:=v) (es':=es') (fun l e=>by obtain ⟨l',e'⟩:=zdu l e;exact RA.out.hk l' e'));have cn:Hid (8 - MA.length=(8 - (MA.length+1))+1):=show _=_ from by omega
     go_upto_region 15 with (first | (go_at_call 21;refine ar.out.mono ?_;rintro e U ⟨rfl,Z,O⟩;have c9:U.cell? ⟨pb,8,none⟩=some (.slice aa MA.length ac):=O.cellR (j:=4) rfl;have cS:=O.lt) | fail);have ak:=hidX (RA.out.mko Z O zdu (by omega));have bM:=Z.rest.size;clear Z O ar c8 c9;go_upto_region 16 with (first | (go_at_call 59;refine (ch.out _ ak.out.st).mono ?_;rintro e aq ⟨au,v,aI,bI,bF,bD,⟨va,vc,rfl,aA⟩,bY,cK,bh⟩;unfold acL) | fail);refine zaf ?_;intro G bs aH;have cF:=hidX (ak.out.mkx au bY (by omega) (ct.out v aI bh));have al:=hidX (cF.out.below bs);have OV:=hidX (zao aA bs);have cQ:=hidX aA;have HV:=hidX bh;have dC:=au.rest.size;have dz:aq.heap.size<G.heap.size:=zab aH;have d8:G.cell? ⟨pb,8,none⟩=some (.slice aa MA.length ac):=al.out.st.mb.cellR (j:=4) rfl;have g0:=zae (L:=[_,_,_,_]) aH (j:=0) rfl;have g1:=zae (L:=[_,_,_,_]) aH (j:=1) rfl;have g2:=zae (L:=[_,_,_,_]) aH (j:=2) rfl;have g3:=zae (L:=[_,_,_,_]) aH (j:=3) rfl;have dv:=al.out.st.mb.lt;have dx:w.heap.size<=G.heap.size:=al.out.mo.rest.size;clear au bY cK bh aA bs aH cF ch ct;refine wp_region_noPanic ?_;refine wp_region_held_drew (S:=(fun _=>True)) (by kernel_rfl) ?_ (fun E=>?_)
     ·(try dsimp only)
      all_goals trivial
     refine tk 0 E ?_;(try simp only[pA,pZ,pS]);refine tk 1 E ?_;(try simp only[pA,pZ,pS]);refine tk 2 E ?_;(try simp only[pA,pZ,pS]);refine tk 3 E ?_;(try simp only[pA,pZ,pS]);refine tk 4 E ?_;(try simp only[pA,pZ,pS]);refine r2 5 6 (fun K hK=>?_) fun K hK=>?_
     ·go_simp;refine hK.out _ _ (by (try dsimp only);all_goals trivial) fun I=>?_;replace E:=I;clear hK K I;(try simp only[pA,pZ,pS]);refine r1 6 fun K hK=>?_;go_simp;refine hK.out _ _ (by (try dsimp only);all_goals trivial) fun I=>?_;replace E:=I;clear hK K I;(try simp only[pA,pZ,pS]);refine r1 7 fun K hK=>?_;go_simp;have aD:=zHA G.drew;have aQ:∀ o',(G.drew.alloc o').cell? ⟨pb,8,none⟩=some (.slice aa MA.length ac):=fun o'=>zaa (aD.out o') d8;have ci:∀ o',(G.alloc o').drew.cell? ⟨pb,8,none⟩=some (.slice aa MA.length ac):=aQ;have cJ:∀ o',(G.alloc o').cell? ⟨pb,8,none⟩=some (.slice aa MA.length ac):=aQ;refine hK.out _ _ (by (try dsimp only);all_goals trivial) fun I=>?_;replace E:=I;clear hK K I;(try simp only[pA,pZ,pS]);have aT:=hidX (al.out.below ((Below.refl _ _).drew));refine r1 8 fun K hK=>?_;(refine zaq (by rfl) (.tmp 77) (.tmp 79) 37 (by rfl) w.heap.size 73 _ 4 56 Tryz.underlying37 zfM (by rfl) (by omega) _ MA.length _ (by rfl) (aT.out.below (aD.out _)).acs.row (some ⟨_,0,none⟩) 1 1 (by rfl) (acL v (.slice va v.args.length vc)) (by rfl) (fun e=>by cases e) (zas _ _ _ _ (by simp)) (zcv _ _ _ _) (by unfold maxLen;omega) (by omega) (by simp;omega) ?_;intro a8 c8 u8 b9 ap cx);refine hK.out _ _ (by (try dsimp only);all_goals trivial) fun I=>?_;replace E:=I;clear hK K I;(try simp only[pA,pZ,pS]);have X:∀ k,(Value.slice aa MA.length ac).ownBlock=some k->w.heap.size<=k:=fun k hk=>(aT.out.acs.rlt k hk).1;have SA:=hidX (fun o'=>aT.out.below (aD.out o'));have b6:=hidX (NRow.more ak.out.acs (SA.out _).acs cQ.out (Nat.le_refl _) (by have:=ak.out.mo.rest.size;omega) ⟨va,vc,rfl⟩ (zao (zao OV.out ((Below.refl _ _).drew)) (aD.out _)) ap.out b9.out (by decide));have aL:=hidX ((SA.out _).st.mb.blocks (ap.out.block pb (SA.out _).st.mb.lt (fun e=>by have:=X pb e.symm;omega)) (ap.out.block g (SA.out _).st.mb.glt (fun e=>by have:=X g e.symm;omega)));have cf:=hidX (zbF (SA.out _).st.ow ap.out (SA.out _).acs.rty (by decide));have ce:=hidX ((SA.out _).pts.grown ap.out (SA.out _).acs.rty (by decide) (by decide));have bk:=hidX (zaL (SA.out _).rq ap.out (SA.out _).acs.rty (by decide));have a7:=hidX ((SA.out _).mo.grown ap.out X);have f8:u8.cell? ⟨pb,8,none⟩=some (.slice aa MA.length ac):=aL.out.cellR (j:=4) rfl;have z8:=aL.out.frozR 8;have cG:=aL.out.lt;refine tk 9 E ?_;(try simp only[pA,pZ,pS]);refine tk 10 E ?_;(try simp only[pA,pZ,pS]);refine tk 11 E ?_;(try simp only[pA,pZ,pS]);refine r1 12 fun K hK=>?_;go_simp;refine hK.out _ _ (by (try dsimp only);all_goals trivial) fun I=>?_;replace E:=I;clear hK K I;(try dsimp only);refine wpAnyH_done (by kernel_rfl) ?_ _;refine NoPanic.normal ?_;clear E;refine zb5 ?_;intro aE az;have br:=aL.out.setR (j:=4) az;have m17:MkO (some pb) u8 aE:=by rw[az];exact MkO.set _
      have bd:=hidX (show RaAt w aE pb g w.heap.size W c ad ab pa pc MP (stS (onS (zaD sy) (actM es))) aI bI bF bD a8 c8 (MA ++ [(v,.slice va v.args.length vc)]) from ⟨a7.out.trans m17,⟨by simpa[RM] using br,al.out.st.hb,zbq cf.out m17 af,af,b0,(a7.out.trans m17).rest.size⟩,ce.out.mko m17 af,b6.out.mko m17 af,(m17.block w.heap.size (zab bk.out) (fun e=>by injection e;omega)).trans bk.out,al.out.hk⟩);have ba:Hid (lenQ pb 8 aE=MA.length+1):=show _=_ from by unfold lenQ;rw[show aE.cell? ⟨pb,8,none⟩=some _ from bd.out.st.mb.cellR (j:=4) rfl];simp[za6]
      have bc:onS s5 (aTo 8 ([],0))=preE ((MA ++ [(v,Value.slice va v.args.length vc)]).map Prod.fst) (onS (stS (onS (zaD sy) (actM es))) (aTo (8 - (MA ++ [(v,Value.slice va v.args.length vc)]).length) aI)):=by
       rw[PA.out,cn.out,bz.out v aI HV.out];simp
      clear az m17 br f8 z8 d8 g0 g1 g2 g3;go_wp2_with fail
      go_roundw
      case rel=>exact ⟨_,aI,bI,bF,bD,a8,c8,MA ++ [(v,.slice va v.args.length vc)],by simp;omega,bd.out,bc⟩
      case measure=>
       change 8 - lenQ pb 8 aE<8 - lenQ pb 8 wr;rw[ba.out,bw.out];omega
     go_simp;refine hK.out _ _ (by (try dsimp only);all_goals trivial) fun I=>?_;replace E:=I;clear hK K I;(try simp only[pA,pZ,pS]);refine r2 5 7 (fun K hK=>?_) fun K hK=>?_
     focus
      go_simp;refine hK.out _ _ (by (try dsimp only);all_goals trivial) fun I=>?_;replace E:=I;clear hK K I;(try simp only[pA,pZ,pS]);refine r1 7 fun K hK=>?_;go_simp;have aD:=zHA G.drew;have aQ:∀ o',(G.drew.alloc o').cell? ⟨pb,8,none⟩=some (.slice aa MA.length ac):=fun o'=>zaa (aD.out o') d8;have ci:∀ o',(G.alloc o').drew.cell? ⟨pb,8,none⟩=some (.slice aa MA.length ac):=aQ;have cJ:∀ o',(G.alloc o').cell? ⟨pb,8,none⟩=some (.slice aa MA.length ac):=aQ
     rotate_left
     focus
      go_simp;have aD:=zHA G.drew;have aQ:∀ o',(G.drew.alloc o').cell? ⟨pb,8,none⟩=some (.slice aa MA.length ac):=fun o'=>zaa (aD.out o') d8;have ci:∀ o',(G.alloc o').drew.cell? ⟨pb,8,none⟩=some (.slice aa MA.length ac):=aQ;have cJ:∀ o',(G.alloc o').cell? ⟨pb,8,none⟩=some (.slice aa MA.length ac):=aQ;refine hK.out _ _ (by (try dsimp only);all_goals trivial) fun I=>?_;replace E:=I;clear hK K I;(try simp only[pA,pZ,pS]);refine r1 5 fun K hK=>?_;go_simp
     rotate_left
     all_goals
      refine hK.out _ _ (by (try dsimp only);all_goals trivial) fun I=>?_;replace E:=I;clear hK K I;(try simp only[pA,pZ,pS]);have aT:=hidX (al.out.below ((Below.refl _ _).drew));refine r1 8 fun K hK=>?_;(refine zaq (by rfl) (.tmp 77) (.tmp 79) 37 (by rfl) w.heap.size 73 _ 4 56 Tryz.underlying37 zfM (by rfl) (by omega) _ MA.length _ (by rfl) (aT.out.below (aD.out _)).acs.row (some ⟨_,0,none⟩) 1 1 (by rfl) (acL v (.slice va v.args.length vc)) (by rfl) (fun e=>by cases e) (zas _ _ _ _ (by simp)) (zcv _ _ _ _) (by unfold maxLen;omega) (by omega) (by simp;omega) ?_;intro a8 c8 u8 b9 ap cx);refine hK.out _ _ (by (try dsimp only);all_goals trivial) fun I=>?_;replace E:=I;clear hK K I;(try simp only[pA,pZ,pS]);have X:∀ k,(Value.slice aa MA.length ac).ownBlock=some k->w.heap.size<=k:=fun k hk=>(aT.out.acs.rlt k hk).1;have SA:=hidX (fun o'=>aT.out.below (aD.out o'));have b6:=hidX (NRow.more ak.out.acs (SA.out _).acs cQ.out (Nat.le_refl _) (by have:=ak.out.mo.rest.size;omega) ⟨va,vc,rfl⟩ (zao (zao OV.out ((Below.refl _ _).drew)) (aD.out _)) ap.out b9.out (by decide));have aL:=hidX ((SA.out _).st.mb.blocks (ap.out.block pb (SA.out _).st.mb.lt (fun e=>by have:=X pb e.symm;omega)) (ap.out.block g (SA.out _).st.mb.glt (fun e=>by have:=X g e.symm;omega)));have cf:=hidX (zbF (SA.out _).st.ow ap.out (SA.out _).acs.rty (by decide));have ce:=hidX ((SA.out _).pts.grown ap.out (SA.out _).acs.rty (by decide) (by decide));have bk:=hidX (zaL (SA.out _).rq ap.out (SA.out _).acs.rty (by decide));have a7:=hidX ((SA.out _).mo.grown ap.out X);have f8:u8.cell? ⟨pb,8,none⟩=some (.slice aa MA.length ac):=aL.out.cellR (j:=4) rfl;have z8:=aL.out.frozR 8;have cG:=aL.out.lt;refine tk 9 E ?_;(try simp only[pA,pZ,pS]);refine tk 10 E ?_;(try simp only[pA,pZ,pS]);refine tk 11 E ?_;(try simp only[pA,pZ,pS]);refine r1 12 fun K hK=>?_;go_simp;refine hK.out _ _ (by (try dsimp only);all_goals trivial) fun I=>?_;replace E:=I;clear hK K I;(try dsimp only);refine wpAnyH_done (by kernel_rfl) ?_ _;refine NoPanic.normal ?_;clear E;refine zb5 ?_;intro aE az;have br:=aL.out.setR (j:=4) az;have m17:MkO (some pb) u8 aE:=by rw[az];exact MkO.set _
      have bd:=hidX (show RaAt w aE pb g w.heap.size W c ad ab pa pc MP (stS (onS (zaD sy) (actM es))) aI bI bF bD a8 c8 (MA ++ [(v,.slice va v.args.length vc)]) from ⟨a7.out.trans m17,⟨by simpa[RM] using br,al.out.st.hb,zbq cf.out m17 af,af,b0,(a7.out.trans m17).rest.size⟩,ce.out.mko m17 af,b6.out.mko m17 af,(m17.block w.heap.size (zab bk.out) (fun e=>by injection e;omega)).trans bk.out,al.out.hk⟩);have ba:Hid (lenQ pb 8 aE=MA.length+1):=show _=_ from by unfold lenQ;rw[show aE.cell? ⟨pb,8,none⟩=some _ from bd.out.st.mb.cellR (j:=4) rfl];simp[za6]
      have bc:onS s5 (aTo 8 ([],0))=preE ((MA ++ [(v,Value.slice va v.args.length vc)]).map Prod.fst) (onS (stS (onS (zaD sy) (actM es))) (aTo (8 - (MA ++ [(v,Value.slice va v.args.length vc)]).length) aI)):=by
       rw[PA.out,cn.out,bz.out v aI HV.out];simp
      clear az m17 br f8 z8 d8 g0 g1 g2 g3;go_wp2_with fail
      go_roundw
      case rel=>exact ⟨_,aI,bI,bF,bD,a8,c8,MA ++ [(v,.slice va v.args.length vc)],by simp;omega,bd.out,bc⟩
      case measure=>
       change 8 - lenQ pb 8 aE<8 - lenQ pb 8 wr;rw[ba.out,bw.out];omega
    ·have HE:Hid (onS s5 (aTo 8 ([],0))=preE (MA.map Prod.fst) (andP (onS (zaD sy) (zai 41)) fun _ l=>.ok (([],es),l))):=show _=_ from by rw[PA.out,zra RA.out.st.mb (by rw[<- hK];exact hk)]
     have e1:(K==1)=false:=by simp[hk]
     clear hK hk;go_wp2_with (first | (go_at_call 21;refine ar.out.mono ?_;rintro e U ⟨rfl,Z,O⟩) | fail);go_meet;exact ⟨_,es,ea,ec,bg,aa,ac,MA,RA.out.mko Z O zdu (by omega),HE.out⟩
  case rest=>
   obtain ⟨sy,es,ea,ec,bg,aa,ac,MA,aG,cU⟩:=hcut;obtain ⟨U,rfl⟩:∃ v,v=wc:=⟨wc,rfl⟩
   have RA:=hidX aG;have PA:=hidX cU;have bj:=hidX (zbw U pb g W c sy _ 2 41 rel41 (by decide) (by decide) aG.st.mb);have dE:w.heap.size<U.heap.size:=zab aG.rq;have hh:=zn2 HM.out.gs dp.out df.out dq.out dg.out dl.out dm.out;rw[<- dd.out,<- di.out]at hh;have bS:=hidX (zp2 hh PL.out cY.out PA.out);clear aG cU bK hh;go_upto_region 18 with (first | (go_at_call 56;refine bj.out.mono ?_;rintro e aq ⟨au,⟨ds,cN,_⟩,ag⟩;obtain rfl:e=.returned (wdA ds):=cN;unfold wdA) | fail);have ax:=hidX (RA.out.mko au ag zgn (by omega));have d4:aq.cell? ⟨pb,4,none⟩=some (.string ad):=ag.cellR (j:=0) rfl;have d5:aq.cell? ⟨pb,5,none⟩=some (.int .i64 ab):=ag.cellR (j:=1) rfl;have d6:aq.cell? ⟨pb,6,none⟩=some (.slice pa MP.length pc):=ag.cellR (j:=2) rfl;have d7:aq.cell? ⟨pb,7,none⟩=some (.slice ea es.1.length ec):=ag.cellR (j:=3) rfl;have d8:aq.cell? ⟨pb,8,none⟩=some (.slice aa MA.length ac):=ag.cellR (j:=4) rfl;have bU:=ag.lt;have ae:=ag.glt;have bL:=ax.out.rq;clear au ag bj;go_wp2_with (first | (refine zac (by rfl) 39 (.tmp 2) (.tmp 89) (by rfl) w.heap.size (ruL ad ab (.slice pa MP.length pc) (.slice ea es.1.length ec) (.slice aa MA.length ac)) (by rfl) (by rfl) _ 39 bL (by rfl) zhe (zke _ _ _ _ _ _ _ _ _ _ _) ?_;intro G cy aN) | fail);have dj:=run_loadVar_mid (P:=Tryz.prog) G w.heap.size 0 39 (ruL ad ab (.slice pa MP.length pc) (.slice ea es.1.length ec) (.slice aa MA.length ac)) _ (zal cy.out) Tryz.underlying39 rfl zhe;(try go_frame);refine bodyPost_ret (v:=.agg (ruL ad ab (.slice pa MP.length pc) (.slice ea es.1.length ec) (.slice aa MA.length ac)).toArray) (by simp[results,Tryz.results23,asAddr,dj]) rfl ?_;refine ⟨ax.out.mo.turn aN.out (Nat.le_refl _),⟨⟨ad,ab,MP.map Prod.fst,es.1,MA.map Prod.fst⟩,pa,pc,MP,ea,ec,aa,ac,MA⟩,.string ad,.int .i64 ab,.slice pa MP.length pc,.slice ea es.1.length ec,.slice aa MA.length ac,.int .i64 bg,rfl,⟨ax.out.pts.turned aN.out bL (by decide) (by decide),zbR ax.out.st.ow aN.out bL (by decide),ax.out.acs.turned aN.out bL (by decide) (by decide),rfl,rfl⟩,?_,?_⟩
   ·have bJ:=ax.out.st.mb.turned aN.out (by omega) (by omega);rcases bS.out with ⟨f,h1,h2⟩ | ⟨y,l,h1,h2⟩
    ·rw[h2]at bJ;rw[h1];exact bJ
    rw[h2]at bJ;rw[h1];exact bJ
   intro y l e;rcases bS.out with ⟨f,h1,h2⟩ | ⟨y',l',h1,h2⟩
   ·rw[h1]at e
    cases e
   rw[h1]at e;injection e with e;injection e with e _;exact e.symm
theorem rel0:∀ x,WdOk x->(x.kind=0 ↔ pkW x=0):=fun _ h=>(zdU h).2.2.2.2.2
theorem zqo{l r:List Wd}{x:Wd}(h:zaj l=.ok (x,r))(hx:pkW x≠40):ruM l=.error (3,x.pos):=by
 unfold ruM;rw[zel h hx];rfl
def limR(n:Nat)(s:Ps):Ps:=if zbx s=1/\16<=n then zdf 4 (zaD s) else zaD s
theorem zmy{w:World}{pb g:Nat}{W:List Wd}{c:Nat}{s:Ps}{R:List Value}{n:Nat}(X:MB w pb g W c s R)(hs:zbx s≠0)(he:ze5 s=0)(hn:n<=16)(v:Ru)(hv:∀ y l,onS (limR n s) ruM=.ok (y,l)->y=v)(M:List Ru) :
  preL M (onS s (za1 0 zbh (16 - n)))=preL (M ++ [v]) (onS (stS (onS (limR n s) ruM)) (za1 0 zbh (16 - (n+1))))/\(n+1<=16∨∃ f,stS (onS (limR n s) ruM)=.error f):=by
 cases s with
 | error f=>
  exact absurd he X.code_err
 | ok l=>
  obtain ⟨x,r,rfl,hx,_⟩:=X.head
  cases hr:zaj (x :: r) with
  | error f=>
   have Z:limR n (.ok (x :: r))=.error f:=by
    unfold limR;rw[if_neg (fun e=>by rw[(zaY hr).1]at e;exact absurd e.1 (by decide)),(zaY hr).2]
   rw[Z];refine ⟨?_,.inr ⟨f,rfl⟩⟩;simp only[onS];rw[zfD hr];rfl
  | ok p=>
   obtain ⟨y,O⟩:=p;obtain ⟨rfl,_⟩:=za8 hr;rw[(look_ok hr).1]at hs;have E:pkW y≠0:=fun e=>hs ((rel0 y hx).2 e);unfold limR at hv ⊢;rw[(look_ok hr).1,(look_ok hr).2]at hv ⊢;by_cases hl:y.kind=1/\16<=n
   ·rw[if_pos hl]at hv ⊢;refine ⟨?_,.inr ⟨(4,y.pos),rfl⟩⟩;rw[show 16 - n=0 by omega];simp only[onS,za1,hr];rw[if_neg E,if_pos ((rel40 y hx).1 hl.1)];rfl
   rw[if_neg hl]at hv ⊢;simp only[onS]at hv ⊢;by_cases h1:y.kind=1
   ·have ab:n<16:=by
     apply Classical.byContradiction;intro I;exact hl ⟨h1,by omega⟩
    refine ⟨?_,.inl (by omega)⟩;obtain ⟨m,hm⟩:∃ m,16 - n=m+1:=⟨16 - (n+1),by omega⟩
    rw[hm,show 16 - (n+1)=m by omega];have ht:zai 40 (y :: r)=.ok (y,O):=by simp only[zai,hr,if_pos ((rel40 y hx).1 h1)]
    have U:ruM (y :: r)=zbh O:=by unfold ruM;rw[ht,zak]
    rw[U]at hv ⊢
    cases I:zbh O with
    | error f=>
     rw[zfq hr E ht I];rfl
    | ok q=>
     obtain ⟨v',l2⟩:=q;have:=hv v' l2 I;subst this;simp only[stS];exact zcZ hr E ht I
   have G:pkW y≠40:=fun e=>h1 ((rel40 y hx).2 e);have I:ruM (y :: r)=.error (3,y.pos):=zqo hr G;rw[I];refine ⟨?_,.inr ⟨_,rfl⟩⟩
   cases hk:16 - n with
   | zero=>
    simp only[za1,hr];rw[if_neg E,if_neg G];rfl
   | succ m=>
    simp only[za1,hr];rw[if_neg E,zel hr G];rfl
theorem zmS{w:World}{pb g:Nat}{W:List Wd}{c:Nat}{s:Ps}{R:List Value}{n:Nat}(E:MB w pb g W c s R)(G:ze5 s=0)(hs:zbx s=0)(M:List Ru):∃ l,preL M (onS s (za1 0 zbh n))=.ok (M,l)/\zaD s=.ok l:=by
 cases s with
 | error f=>exact absurd G E.code_err
 | ok l=>
  obtain ⟨x,r,rfl,hx,_⟩:=E.head
  cases hr:zaj (x :: r) with
  | error f=>exact absurd ((zaY hr).1.symm.trans hs) (by decide)
  | ok p=>
   obtain ⟨y,I⟩:=p;obtain ⟨rfl,_⟩:=za8 hr;rw[(look_ok hr).1]at hs;refine ⟨y :: r,?_,(look_ok hr).2⟩;simp only[onS];rw[zdz hr ((rel0 y hx).1 hs)];simp[preL]
structure RrAt (w3 wr:World) (pb g rb:Nat) (W:List Wd) (c:Nat) (s:Ps) (la:Option Addr) (lc:Nat) (M:List RX) (nm sl pv ev av bv:Value):Prop where
 mo:MkO (some pb) w3 wr
 mb:MB wr pb g W c s (RM nm sl pv ev av bv)
 rq:wr.heap[rb]?=some (.cells (csL 0 0 (.slice none 0 0)).toArray 27 (0,0))
 co:RRow wr w3.heap.size la lc M
 le:M.length<=16∨∃ f,s=.error f
 lt:M.length<=17
 pl:zcd W=preL (M.map RX.ru) (onS s (za1 0 zbh (16 - M.length)))
theorem zgF(src:Bs)(a:Option Addr)(c:Nat)(w:World)(hv:zbZ w a src)(bd:src.length<=c)(bR:src.length<=1048576):Calls Tryz.prog 10 #[.slice a src.length c] w (zlv w (prR src)):=by
 have HV:=hidX hv;go_enter Tryz.func10,Tryz.ntmps10;go_upto_region 1 with fail
 refine zaf ?_;intro w1 aA aL;have bt:w.heap.size<w1.heap.size:=zab aL;by_cases hl:20000<src.length
 ·have HR:Hid (prR src=.error (4,0)):=show _=_ from by unfold prR;rw[if_pos hl]
  have bp:(20000:Int)<(src.length:Int):=by omega
  have aJ:=hidX aA;clear hl aA;go_wp2_with (first | (refine zac (by rfl) 27 (.tmp 2) (.tmp 8) (by rfl) w.heap.size (csL 4 0 (.slice none 0 0)) (by rfl) (by rfl) _ 27 aL (by rfl) zfC (ziH _ _ _ _ _) ?_;intro w4 I aQ) | fail);have ar:=run_loadVar_mid (P:=Tryz.prog) w4 w.heap.size 0 27 (csL 4 0 (.slice none 0 0)) _ (zal I.out) Tryz.underlying27 rfl zfC;(try go_frame);refine bodyPost_ret (v:=.agg (csL 4 0 (.slice none 0 0)).toArray) (by simp[results,Tryz.results10,asAddr,ar]) rfl ⟨aJ.out.trans (aQ.out.below (Nat.le_refl _)),4,0,none,0,[],rfl,RRow.nil _ _,?_⟩;rw[HR.out];exact ⟨rfl,rfl,rfl⟩
 have HR:Hid (prR src=zcd (zbd src)):=show _=_ from by unfold prR;rw[if_neg hl]
 have bp:¬ (20000:Int)<(src.length:Int):=by omega
 have al:=hidX (zf2 src 0 (Nat.zero_le _));have aT:=hidX (zkx src a c w1 (HV.out.below aA) (by omega) bd);have bm:=hidX aL;have aJ:=hidX aA;have bh:=hidX (zkl src);obtain ⟨W,aZ⟩:∃ W,W=zbd src:=⟨_,rfl⟩
 replace al:Hid ((∀ x∈W,WdOk x/\x.text.length<=src.length)/\WsOk W):=by rw[aZ];exact al
 rw[<- aZ]at aT HR bh;clear hl aA aL aZ;go_upto_region 4 with (first | (go_at_call 20;refine aT.out.mono ?_;rintro e X ⟨⟨wa,cw,rfl,how⟩,aM⟩) | fail);refine zaf ?_;intro w3 aI aX;obtain ⟨g,rfl,bQ,bB,bu,br⟩:=zkg.owns how al.out.2.ne;have bD:X.heap.size<w3.heap.size:=zab aX;have bN:=aM.size;have bk:=hidX (show MB w3 X.heap.size g W cw (.ok W) (RM (.string ⟨#[]⟩) (.int .i64 0) (.slice none 0 0) (.slice none 0 0) (.slice none 0 0) (.int .i64 0)) from ⟨⟨0,0,0,aX,List.length_pos_iff.2 al.out.2.ne,rfl,rfl,by simp⟩,bu.block (aI.block g bB),by omega,fun x hx=>⟨(al.out.1 x hx).1,by have:=(al.out.1 x hx).2;omega⟩,al.out.2,br,by have:=bh.out;omega⟩);have aN:=hidX ((aI.block w.heap.size (by omega)).trans ((aM.block w.heap.size bt).trans bm.out));have aU:=hidX (aJ.out.trans ((aM.mono (Nat.le_of_lt bt)).trans (aI.mono (by omega))):Below w.heap.size w w3);have bs:=hidX (show RrAt w3 w3 X.heap.size g w.heap.size W cw (.ok W) none 0 [] (.string ⟨#[]⟩) (.int .i64 0) (.slice none 0 0) (.slice none 0 0) (.slice none 0 0) (.int .i64 0) from ⟨MkO.refl _ _,bk.out,aN.out,RRow.nil _ _,.inl (by simp),by simp,by
  show zcd W=preL [] (zcd W);unfold preL
  cases zcd W <;> rfl⟩)
 have ae:X.heap.size<w3.heap.size:=bD;have bS:w.heap.size<X.heap.size:=by omega
 clear aI aX bu br how aM aT bm aJ bk aN hv bp HV;go_wp2_with fail
 go_loopw [4] (fun v wr=>∃ la lc M s nm sl pv ev av bv,v=.slice la M.length lc/\RrAt w3 wr X.heap.size g w.heap.size W cw s la lc M nm sl pv ev av bv) (fun v _=>18 - za6 v)
 case atStart=>exact ⟨none,0,[],_,_,_,_,_,_,_,rfl,bs.out⟩
 case round=>
  obtain ⟨la,lc,M,s,nm,sl,pv,ev,av,bv,rfl,aD⟩:=hrel;have G:=hidX aD;have bT:=aD.lt;have c2:=aD.mb.code;have bK:=aD.mo.rest.size;clear aD bs
  cases s with
  | error f=>
   have bi:=G.out.mb.code_err;have bM:(f.1==0)=false:=by simpa using bi
   have bL:(f.1 != 0)=true:=by simpa using bi
   have aO:Hid (prR src=.error f):=show _=_ from by rw[HR.out,G.out.pl];rfl
   obtain ⟨k,cd,pos,hq,hk,e1,e2,_⟩:=G.out.mb.st;subst e1;subst e2;have d2:=zae hq (j:=2) rfl;have d3:=zae hq (j:=3) rfl;have b0:=zae G.out.rq (j:=0) rfl;have b1:=zae G.out.rq (j:=1) rfl;have b2:=zae G.out.rq (j:=2) rfl;have z0:=zax G.out.rq 0;have z1:=zax G.out.rq 1;have z2:=zax G.out.rq 2;have bF:=G.out.mb.lt;have aE:w.heap.size<wr.heap.size:=zab G.out.rq;clear c2 hq;go_upto_region 10 with fail
   go_region;refine zm4 G.out.rq (by rfl) ?_;intro w4 I aQ;clear d2 d3 b0 b1 b2 z0 z1 z2;have ar:=run_loadVar_mid (P:=Tryz.prog) w4 w.heap.size 0 27 (csL f.1 f.2 (.slice none 0 0)) _ (zal I) Tryz.underlying27 rfl zfC;go_wp2_with fail
   (try go_frame);refine bodyPost_ret (v:=.agg (csL f.1 f.2 (.slice none 0 0)).toArray) (by simp[results,Tryz.results10,asAddr,ar]) rfl ⟨(aU.out.trans (G.out.mo.below (by omega) (fun g e=>by injection e;omega))).trans (aQ.below (Nat.le_refl _)),f.1,f.2,none,0,[],rfl,RRow.nil _ _,?_⟩;rw[aO.out];exact ⟨rfl,rfl,rfl⟩
  | ok l=>
   simp only[ze5]at c2;have bC:M.length<=16:=G.out.le.elim id (fun e=>by obtain ⟨f,e⟩:=e;cases e);have aj:=hidX (zch wr X.heap.size g W cw (.ok l) (RM nm sl pv ev av bv) G.out.mb);unfold zco at aj;have aS:=hidX (zmi (.ok l));have ag:=hidX (fun u (hu:MB u X.heap.size g W cw (zaD (.ok l)) (RM nm sl pv ev av bv))=>zch u X.heap.size g W cw (zaD (.ok l)) (RM nm sl pv ev av bv) hu);unfold zco at ag;rw[aS.out.1,aS.out.2]at ag;have aq:=hidX (fun v hv=>zmy (n:=M.length) G.out.mb · rfl bC v hv (M.map RX.ru));have bc:=hidX (fun h=>zmS (n:=16 - M.length) G.out.mb rfl h (M.map RX.ru));have af:Hid (limR M.length (.ok l)=if zbx (.ok l)=1/\16<=M.length then zdf 4 (zaD (.ok l)) else zaD (.ok l)):=show _=_ from rfl;obtain ⟨K,hK⟩:∃ K,K=zbx (.ok l):=⟨_,rfl⟩
   rw[<- hK]at aj ag aq bc af;have bF:=G.out.mb.lt;have aE:w.heap.size<wr.heap.size:=zab G.out.rq;clear hK aS;by_cases h0:K=0
   ·subst h0;obtain ⟨l',bw,bz⟩:=bc.out rfl;have aO:Hid (prR src=.ok (M.map RX.ru,l')):=show _=_ from by rw[HR.out,G.out.pl];exact bw
    have bA:=hidX bz;clear bw bz ag aq bc af;go_upto_region 11 with (first | (go_at_call 21;refine aj.out.mono ?_;rintro e w4 ⟨rfl,E,I⟩;have bl:=I.code;rw[zl4 bA.out]at bl) | fail);have aY:=E.rest.size;have bo:=(E.block w.heap.size aE (fun e=>by injection e;omega)).trans G.out.rq;have bJ:=hidX (G.out.co.mko E ae);have M4:=hidX (G.out.mo.trans E);clear E I bl c2;go_wp2_with (first | (refine zac (by rfl) 27 (.tmp 2) (.tmp 53) (by rfl) w.heap.size (csL 0 0 (.slice la M.length lc)) (by rfl) (by rfl) _ 27 bo (by rfl) zfC (ziH _ _ _ _ _) ?_;intro w5 ad bf) | fail);have ar:=run_loadVar_mid (P:=Tryz.prog) w5 w.heap.size 0 27 (csL 0 0 (.slice la M.length lc)) _ (zal ad.out) Tryz.underlying27 rfl zfC;(try go_frame);refine bodyPost_ret (v:=.agg (csL 0 0 (.slice la M.length lc)).toArray) (by simp[results,Tryz.results10,asAddr,ar]) rfl ⟨(aU.out.trans (M4.out.below (by omega) (fun g e=>by injection e;omega))).trans (bf.out.below (Nat.le_refl _)),0,0,la,lc,M,rfl,(bJ.out.turned bf.out bo (by decide) (by decide) (by decide) (by decide) (by decide) (by decide)).base aU.out.size,?_⟩;rw[aO.out];exact ⟨rfl,rfl,rfl⟩
   have bO:(K != 0)=true:=by simpa using h0
   by_cases h1:K=1
   ·subst h1;by_cases aH:16<=M.length
    focus
     have bG:(16:Int)<=(M.length:Int):=by omega
     have HF:=hidX (fun u (hu:MB u X.heap.size g W cw (zaD (.ok l)) (RM nm sl pv ev av bv))=>zbY u X.heap.size g W cw (zaD (.ok l)) (RM nm sl pv ev av bv) 4 (by decide) hu);rw[if_pos ⟨rfl,aH⟩]at af;clear aH;go_upto_region 6 with (first | (go_at_call 21;refine aj.out.mono ?_;rintro e w4 ⟨rfl,E,I⟩) | fail);have aY:=E.rest.size;clear c2;go_upto_region 8 with (first | (go_at_call 21;refine (ag.out _ I).mono ?_;rintro e w5 ⟨rfl,O,ad⟩) | (go_at_call 22;refine (HF.out _ ad).mono ?_;rintro e w6 ⟨rfl,a6,aR⟩) | fail);have bj:=O.rest.size;have MR:=hidX (show MkO (some X.heap.size) wr w6 from by first | exact (E.trans O).trans a6 | exact E.trans O);have bn:wr.heap.size<=w6.heap.size:=MR.out.rest.size;have M6:=hidX (G.out.mo.trans MR.out);have ap:=hidX (G.out.co.mko MR.out ae);have ao:=hidX ((MR.out.block w.heap.size aE (fun e=>by injection e;omega)).trans G.out.rq);have aK:=hidX (show MB w6 X.heap.size g W cw (limR M.length (.ok l)) (RM nm sl pv ev av bv) from by rw[af.out];first | exact aR | exact ad)
    rotate_left
    focus
     have bG:(M.length:Int)<16:=by omega
     rw[if_neg (fun e=>aH e.2)]at af;clear aH;go_upto_region 6 with (first | (go_at_call 21;refine aj.out.mono ?_;rintro e w4 ⟨rfl,E,I⟩) | fail);have aY:=E.rest.size;clear c2;go_upto_region 8 with (first | (go_at_call 21;refine (ag.out _ I).mono ?_;rintro e w5 ⟨rfl,O,ad⟩) | fail);have bj:=O.rest.size;have MR:=hidX (show MkO (some X.heap.size) wr w5 from by first | exact (E.trans O).trans a6 | exact E.trans O);have bn:wr.heap.size<=w5.heap.size:=MR.out.rest.size;have M6:=hidX (G.out.mo.trans MR.out);have ap:=hidX (G.out.co.mko MR.out ae);have ao:=hidX ((MR.out.block w.heap.size aE (fun e=>by injection e;omega)).trans G.out.rq);have aK:=hidX (show MB w5 X.heap.size g W cw (limR M.length (.ok l)) (RM nm sl pv ev av bv) from by rw[af.out];first | exact aR | exact ad)
    rotate_left
    all_goals
     have aW:=hidX (fun u (hu:MB u X.heap.size g W cw (limR M.length (.ok l)) (RM nm sl pv ev av bv))=>zg3 u X.heap.size g W cw (limR M.length (.ok l)) nm sl pv ev av bv hu);clear af E I ad O aj ag;go_wp2_with (first | (go_at_call 23;refine (aW.out _ aK.out).mono ?_;rintro e w7 ⟨ah,xr,aw,aB,ax,au,az,aG,rfl,aC,aV,ay⟩;unfold RX.cells ruL;have M7:=hidX (M6.out.trans ah);have aF:=hidX (ap.out.mko ah ae);have bI:=ah.rest.size;have Z:=zHA w7;have OA:=hidX (fun o'=>aF.out.mko (MkO.of_below (Z.out o')) ae)) | (at_builtin;refine zag (by rfl) (.tmp 33) (.tmp 36) 24 (by rfl) w3.heap.size 39 _ 5 96 Tryz.underlying24 zie (by rfl) (by omega) _ M.length _ (by rfl) (OA.out _).row (some ⟨_,0,none⟩) 1 1 (by rfl) xr.cells (by rfl) (fun e=>by cases e) (zas _ _ _ _ (by simp)) xr.cells_one (by unfold maxLen;omega) (by omega) (by simp;omega) ?_;intro a8 c8 w8 a1 U bH) | fail);have ab:∀ k,(Value.slice la M.length lc).ownBlock=some k->w3.heap.size<=k:=fun k hk=>(aF.out.row.lt k hk).1;have TY:=hidX (fun o' g hg=>zaA (OA.out o').row (k:=g) hg);have NX:=hidX (aC.base (show w3.heap.size<=_ by omega));have M8:=hidX ((M7.out.trans (MkO.of_below (Z.out _))).grown U.out ab);have ak:=hidX (fun o'=>aV.below (Z.out o'));have aP:=hidX ((ak.out _).blocks (U.out.block X.heap.size (ak.out _).lt (fun e=>by have:=ab _ e.symm;omega)) (U.out.block g (ak.out _).glt (fun e=>by have:=ab _ e.symm;omega)));have bb:=hidX (fun o'=>((Z.out o').block w.heap.size (by omega)).trans ((ah.block w.heap.size (by omega) (fun e=>by injection e;omega)).trans ao.out));have a7:=hidX (zaL (bb.out _) U.out (TY.out _) (by decide));have C8:=hidX (show RRow w8 w3.heap.size a8 c8 (M ++ [xr]) from ⟨by simpa using a1.out,fun x hx=>by
      rcases List.mem_append.1 hx with hx | hx
      ·exact ((OA.out _).all x hx).grown U.out (TY.out _)
      simp at hx;subst hx;exact (NX.out.mko (MkO.of_below (Z.out _)) ae).grown U.out (TY.out _),ap.out.newer (Nat.le_refl _) aC⟩)
     have ba:=hidX (show RrAt w3 w8 X.heap.size g w.heap.size W cw (stS (onS (limR M.length (.ok l)) ruM)) a8 c8 (M ++ [xr]) aw aB ax au az aG from ⟨M8.out,aP.out,a7.out,C8.out,by
      have:=(aq.out h0 xr.ru ay).2;simpa using this,by simp;omega,by
      rw[G.out.pl,(aq.out h0 xr.ru ay).1];simp⟩)
     go_roundw
     case rel=>exact ⟨a8,c8,_,_,aw,aB,ax,au,az,aG,by simp,ba.out⟩
     case measure=>(simp[za6];omega)
   have bP:(K==1)=false:=by simpa using h1
   rw[if_neg (fun e=>h1 e.1)]at af;clear h1;go_upto_region 6 with (first | (go_at_call 21;refine aj.out.mono ?_;rintro e w4 ⟨rfl,E,I⟩) | fail);have aY:=E.rest.size;clear c2;go_upto_region 8 with (first | (go_at_call 21;refine (ag.out _ I).mono ?_;rintro e w5 ⟨rfl,O,ad⟩) | fail);have bj:=O.rest.size;have MR:=hidX (show MkO (some X.heap.size) wr w5 from by first | exact (E.trans O).trans a6 | exact E.trans O);have bn:wr.heap.size<=w5.heap.size:=MR.out.rest.size;have M6:=hidX (G.out.mo.trans MR.out);have ap:=hidX (G.out.co.mko MR.out ae);have ao:=hidX ((MR.out.block w.heap.size aE (fun e=>by injection e;omega)).trans G.out.rq);have aK:=hidX (show MB w5 X.heap.size g W cw (limR M.length (.ok l)) (RM nm sl pv ev av bv) from by rw[af.out];first | exact aR | exact ad);have aW:=hidX (fun u (hu:MB u X.heap.size g W cw (limR M.length (.ok l)) (RM nm sl pv ev av bv))=>zg3 u X.heap.size g W cw (limR M.length (.ok l)) nm sl pv ev av bv hu);clear af E I ad O aj ag;go_wp2_with (first | (go_at_call 23;refine (aW.out _ aK.out).mono ?_;rintro e w7 ⟨ah,xr,aw,aB,ax,au,az,aG,rfl,aC,aV,ay⟩;unfold RX.cells ruL;have M7:=hidX (M6.out.trans ah);have aF:=hidX (ap.out.mko ah ae);have bI:=ah.rest.size;have Z:=zHA w7;have OA:=hidX (fun o'=>aF.out.mko (MkO.of_below (Z.out o')) ae)) | (at_builtin;refine zag (by rfl) (.tmp 33) (.tmp 36) 24 (by rfl) w3.heap.size 39 _ 5 96 Tryz.underlying24 zie (by rfl) (by omega) _ M.length _ (by rfl) (OA.out _).row (some ⟨_,0,none⟩) 1 1 (by rfl) xr.cells (by rfl) (fun e=>by cases e) (zas _ _ _ _ (by simp)) xr.cells_one (by unfold maxLen;omega) (by omega) (by simp;omega) ?_;intro a8 c8 w8 a1 U bH) | fail);have ab:∀ k,(Value.slice la M.length lc).ownBlock=some k->w3.heap.size<=k:=fun k hk=>(aF.out.row.lt k hk).1;have TY:=hidX (fun o' g hg=>zaA (OA.out o').row (k:=g) hg);have NX:=hidX (aC.base (show w3.heap.size<=_ by omega));have M8:=hidX ((M7.out.trans (MkO.of_below (Z.out _))).grown U.out ab);have ak:=hidX (fun o'=>aV.below (Z.out o'));have aP:=hidX ((ak.out _).blocks (U.out.block X.heap.size (ak.out _).lt (fun e=>by have:=ab _ e.symm;omega)) (U.out.block g (ak.out _).glt (fun e=>by have:=ab _ e.symm;omega)));have bb:=hidX (fun o'=>((Z.out o').block w.heap.size (by omega)).trans ((ah.block w.heap.size (by omega) (fun e=>by injection e;omega)).trans ao.out));have a7:=hidX (zaL (bb.out _) U.out (TY.out _) (by decide));have C8:=hidX (show RRow w8 w3.heap.size a8 c8 (M ++ [xr]) from ⟨by simpa using a1.out,fun x hx=>by
    rcases List.mem_append.1 hx with hx | hx
    ·exact ((OA.out _).all x hx).grown U.out (TY.out _)
    simp at hx;subst hx;exact (NX.out.mko (MkO.of_below (Z.out _)) ae).grown U.out (TY.out _),ap.out.newer (Nat.le_refl _) aC⟩)
   have ba:=hidX (show RrAt w3 w8 X.heap.size g w.heap.size W cw (stS (onS (limR M.length (.ok l)) ruM)) a8 c8 (M ++ [xr]) aw aB ax au az aG from ⟨M8.out,aP.out,a7.out,C8.out,by
    have:=(aq.out h0 xr.ru ay).2;simpa using this,by simp;omega,by
    rw[G.out.pl,(aq.out h0 xr.ru ay).1];simp⟩)
   go_roundw
   case rel=>exact ⟨a8,c8,_,_,aw,aB,ax,au,az,aG,by simp,ba.out⟩
   case measure=>(simp[za6];omega)
end Go.Proofs.YtjjjagepnnbebaaGreatDoor
namespace Go.Proofs.YtjjjagepnnbebaaGreatDoor
theorem zgr:zbr 0:=⟨by decide,by decide⟩
theorem zqb{x:Wd}(h:WdOk x):zbr x.num:=by
 rcases h with ⟨_,h,_⟩ | ⟨_,h⟩
 ·rw[h];exact zgr
 rw[h];unfold mnum zbj;split
 ·rename_i E;simp only[Bool.and_eq_true,decide_eq_true_eq]at E;exact ⟨E.1,E.2.1⟩
 exact zgr
theorem zgz{x:Wd}(h:WdOk x)(k:Int)(t:Bs):zbr (wVal k x.num t).num:=by
 unfold wVal;split
 ·exact zqb h
 exact zgr
theorem zfE:zbr zVr.num:=zgr
theorem zow{l r:List Wd}{t:Tm}(h:zbM l=.ok (t,r))(hg:GdW l):zbr t.val.num:=by
 unfold zbM at h;obtain ⟨o,l1,ho,h⟩:=zan h;obtain ⟨x,l2,hx,h⟩:=zan h;obtain ⟨G,g1,I,E⟩:=zaN ho hg;obtain ⟨O,g2,x1,_⟩:=zby hx g1;split at h
 ·obtain ⟨b,l3,hb,h⟩:=zan h
  cases h
  exact zgz x1 _ _
 split at h
 ·obtain ⟨b,l3,hb,h⟩:=zan h
  cases h
  exact zfE
 cases h
theorem zj4{l r:List Wd}{t:Tm}(h:zaX l=.ok (t,r))(hg:GdW l):zbr t.val.num:=by
 unfold zaX at h;obtain ⟨x,l1,hx,h⟩:=zan h;obtain ⟨E,g1,x1,_⟩:=zby hx hg;split at h
 ·cases h
  exact zfE
 split at h
 ·cases h
  exact zgz x1 _ _
 split at h
 ·cases h
  exact zfE
 split at h
 ·exact zow h g1
 cases h
theorem zo2{l r:List Wd}{p:Pt}(h:pPat l=.ok (p,r))(hg:GdW l):∀ t∈p.terms,zbr t.val.num:=by
 unfold pPat at h;obtain ⟨x,l1,hx,h⟩:=zan h;obtain ⟨O,g1,x1,I⟩:=zaN hx hg;split at h
 ·obtain ⟨c,l2,G,h⟩:=zan h;obtain ⟨ts,l3,ht,h⟩:=zan h;obtain ⟨E,g2⟩:=zfv G g1;obtain ⟨h1,h2,_⟩:=zfA (P:=fun t=>zbr t.val.num) (fun _ _ _ h hg=>⟨zj4 h hg,(zer h hg).2⟩) 6 ht g2
  cases h
  exact h2
 obtain ⟨ts,l3,ht,h⟩:=zan h;obtain ⟨h1,h2,_⟩:=zfA (P:=fun t=>zbr t.val.num) (fun _ _ _ h hg=>⟨zj4 h hg,(zer h hg).2⟩) 6 ht g1
 cases h
 exact h2
def EsN(s:ES):Prop:=∀ e∈s.1,zbr e.val.num
theorem EsN.snoc{s:ES}{n:Nat}{e:Ex}(h:EsN s)(he:zbr e.val.num):EsN (s.1 ++ [e],n):=fun x hx=>by
 rcases List.mem_append.1 hx with hx | hx
 ·exact h x hx
 rw[List.mem_singleton.1 hx];exact he
theorem zmE:∀ (f:Nat) {s s1:ES}{l r:List Wd}{i:Int},zaw f s l=.ok ((i,s1),r)->GdW l->EsN s->EsN s1:=by
 intro f
 induction f with
 | zero=>
  intro s s1 l r i h hg hs;unfold zaw at h
  cases hb:zaW (s.2:Int) 60 l with
  | error e=>rw[hb]at h;cases h
  | ok q=>
   rw[hb]at h;simp only at h
   cases hn:zaj l with
   | error e=>rw[hn]at h;cases h
   | ok q=>
    obtain ⟨x,l1⟩:=q;rw[hn]at h;simp only at h;obtain ⟨I,g1,x1,_⟩:=zby hn hg;split at h
    ·cases h
     exact hs.snoc (zgz x1 _ _)
    ·split at h
     ·cases h
      exact hs.snoc zfE
     ·split at h <;> cases h
 | succ f G=>
  intro s s1 l r i h hg hs;unfold zaw at h
  cases hb:zaW (s.2:Int) 60 l with
  | error e=>rw[hb]at h;cases h
  | ok q=>
   rw[hb]at h;simp only at h
   cases hn:zaj l with
   | error e=>rw[hn]at h;cases h
   | ok q=>
    obtain ⟨x,l1⟩:=q;rw[hn]at h;simp only at h;obtain ⟨I,g1,x1,_⟩:=zby hn hg;split at h
    ·cases h
     exact hs.snoc (zgz x1 _ _)
    split at h
    ·cases h
     exact hs.snoc zfE
    split at h
    ·cases ho:zai 43 l1 with
     | error e=>rw[ho]at h;cases h
     | ok q=>
      obtain ⟨o,l2⟩:=q;rw[ho]at h;simp only at h;obtain ⟨w2,g2,o1,k2⟩:=zaN ho g1
      cases ha:zaw f (s.1,s.2+1) l2 with
      | error e=>rw[ha]at h;cases h
      | ok q=>
       obtain ⟨⟨Z,sa⟩,l3⟩:=q;rw[ha]at h;simp only at h;have X:=G ha g2 hs;obtain ⟨_,_,O⟩:=zfs f ha g2
       cases E:zaw f sa l3 with
       | error e=>rw[E]at h;cases h
       | ok q=>
        obtain ⟨⟨ib,sb⟩,l4⟩:=q;rw[E]at h;simp only at h;have U:=G E O X
        cases hd:zai 41 l4 with
        | error e=>rw[hd]at h;cases h
        | ok q=>
         obtain ⟨y,l5⟩:=q;rw[hd]at h;simp only at h
         cases h
         exact U.snoc zfE
    cases h
theorem zjP:∀ (n:Nat) {s s1:ES}{l r:List Wd}{zs:List Int},zaB (zaw 20) n s l=.ok ((zs,s1),r)->GdW l->EsN s->EsN s1:=by
 intro n
 induction n with
 | zero=>
  intro s s1 l r zs h hg hs;unfold zaB at h
  cases hn:zaj l with
  | error e=>rw[hn]at h;cases h
  | ok q=>
   obtain ⟨x,t⟩:=q;rw[hn]at h;simp only at h;split at h
   ·cases h
    exact hs
   ·split at h <;> cases h
 | succ n G=>
  intro s s1 l r zs h hg hs;unfold zaB at h
  cases hn:zaj l with
  | error e=>rw[hn]at h;cases h
  | ok q=>
   obtain ⟨x,t⟩:=q;rw[hn]at h;simp only at h;split at h
   ·cases h
    exact hs
   cases hr:zaw 20 s l with
   | error e=>rw[hr]at h;cases h
   | ok q=>
    obtain ⟨⟨v,E⟩,l1⟩:=q;rw[hr]at h;simp only at h;obtain ⟨_,_,g2⟩:=zfs 20 hr hg;have I:=zmE 20 hr hg hs
    cases hp:zaB (zaw 20) n E l1 with
    | error e=>rw[hp]at h;cases h
    | ok q=>
     obtain ⟨⟨U,X⟩,l2⟩:=q;rw[hp]at h;simp only at h;have O:=G hp g2 I
     cases h
     exact O
theorem zoT{s s1:ES}{l r:List Wd}{a:Ac}(h:pAct s l=.ok ((a,s1),r))(hg:GdW l)(hs:EsN s):EsN s1:=by
 unfold pAct at h;obtain ⟨x,l1,hx,h⟩:=zan h;obtain ⟨O,g1,x1,I⟩:=zaN hx hg;split at h
 ·unfold zd8 at h;obtain ⟨y,l2,hy,h⟩:=zan h
  cases h
  exact hs
 split at h
 ·unfold aMod at h;obtain ⟨k,l2,hk,h⟩:=zan h;obtain ⟨p,l3,hp,h⟩:=zan h;obtain ⟨U,g2⟩:=ziZ hk g1;obtain ⟨zs,sp⟩:=p;have n:=zjP 6 hp g2 hs
  cases h
  exact n
 split at h
 ·unfold zds at h;obtain ⟨k,l2,hk,h⟩:=zan h;obtain ⟨y,l3,hy,h⟩:=zan h
  cases h
  exact hs
 split at h
 ·unfold aAdd at h;obtain ⟨c,l2,G,h⟩:=zan h;obtain ⟨p,l3,hp,h⟩:=zan h;obtain ⟨E,g2⟩:=zfv G g1;obtain ⟨zs,sp⟩:=p;have n:=zjP 6 hp g2 hs
  cases h
  exact n
 cases h
theorem zmY:∀ (n:Nat) {s s1:ES}{l r:List Wd}{E:List Ac},zaK 41 pAct n s l=.ok ((E,s1),r)->GdW l->EsN s->EsN s1:=by
 intro n
 induction n with
 | zero=>
  intro s s1 l r E h hg hs;unfold zaK at h
  cases hn:zaj l with
  | error e=>rw[hn]at h;cases h
  | ok q=>
   obtain ⟨x,t⟩:=q;rw[hn]at h;simp only at h;split at h
   ·cases h
    exact hs
   ·split at h <;> cases h
 | succ n I=>
  intro s s1 l r E h hg hs;unfold zaK at h
  cases hn:zaj l with
  | error e=>rw[hn]at h;cases h
  | ok q=>
   obtain ⟨x,t⟩:=q;rw[hn]at h;simp only at h;split at h
   ·cases h
    exact hs
   cases ht:zai 40 l with
   | error e=>rw[ht]at h;cases h
   | ok q=>
    obtain ⟨y,l1⟩:=q;rw[ht]at h;simp only at h;obtain ⟨w1,g1,y1,Z⟩:=zaN ht hg
    cases hr:pAct s l1 with
    | error e=>rw[hr]at h;cases h
    | ok q=>
     obtain ⟨⟨v,G⟩,l2⟩:=q;rw[hr]at h;simp only at h;obtain ⟨_,_,g2⟩:=zky hr g1;have O:=zoT hr g1 hs
     cases hp:zaK 41 pAct n G l2 with
     | error e=>rw[hp]at h;cases h
     | ok q=>
      obtain ⟨⟨X,su⟩,l3⟩:=q;rw[hp]at h;simp only at h;have U:=I hp g2 O
      cases h
      exact U
theorem zna{l r:List Wd}{x:Ru}(h:zbh l=.ok (x,r))(hg:GdW l):RuN x:=by
 unfold zbh at h;obtain ⟨y,l1,hy,h⟩:=zan h;obtain ⟨w1,g1,y1,k1⟩:=zaN hy hg;split at h
 ·obtain ⟨nm,l2,h2,h⟩:=zan h;obtain ⟨sl,l3,h3,h⟩:=zan h;obtain ⟨ps,l4,E,h⟩:=zan h;obtain ⟨ar,l5,G,h⟩:=zan h;obtain ⟨q,l6,h6,h⟩:=zan h;obtain ⟨en,l7,h7,h⟩:=zan h;obtain ⟨w2,g2,n1,k2⟩:=zaN h2 g1;obtain ⟨w3,X,s1,_⟩:=zaN h3 g2;obtain ⟨p6,U,O⟩:=zfj (P:=fun p=>∀ t∈p.terms,zbr t.val.num) (fun _ _ _ h hg=>⟨zo2 h hg,(zkw h hg).2⟩) 6 E X;obtain ⟨w5,I,_⟩:=zaN G O;obtain ⟨az,sq⟩:=q;have Z:=zmY 8 h6 I (fun e he=>by simp at he)
  cases h
  exact ⟨zqb s1,U,Z⟩
 cases h
theorem zhB{src:Bs}{rs:List Ru}{l:List Wd}(h:prR src=.ok (rs,l)):∀ r∈rs,RuN r:=by
 unfold prR at h;split at h
 ·cases h
 obtain ⟨_,hs,_⟩:=zfj (P:=fun r=>RuN r) (fun _ _ _ h hg=>⟨zna h hg,(zix h hg).2⟩) 16 h (zeC src).2;exact hs
theorem zgV{s:ByteArray}(h:gSym s.data.toList=true):s.size<=1048576:=Nat.le_trans (zdm h) (by decide)
theorem zeI{s:ByteArray}(h:isE s=true):s.size<=1048576:=by
 rw[zgh h];exact Nat.zero_le _
theorem zfx{v:V}(h:zbm v=true):v.sym.size<=1048576:=by
 simp only[zbm,Bool.and_eq_true]at h;exact zeI h.2.2
theorem zkI{v:V}(h:gVal v=true):v.sym.size<=1048576:=by
 simp only[gVal,Bool.or_eq_true,Bool.and_eq_true]at h;rcases h with h | h
 ·exact zeI h.2
 exact zgV h.2.2
theorem zl8{t:Tm}(h:zbo t=true):Tm.le 1048576 t:=by
 simp only[zbo,Bool.or_eq_true,Bool.and_eq_true]at h;rcases h with h | h
 ·exact ⟨zeI h.1,zkI h.2⟩
 exact ⟨zgV h.1,zfx h.2⟩
theorem zr1{t:Tm}(h:gTm t=true):Tm.le 1048576 t:=by
 unfold gTm at h
 repeat' split at h
 ·simp only[Bool.and_eq_true]at h;exact ⟨zeI h.2.1,zfx h.2.2⟩
 ·simp only[Bool.and_eq_true]at h;exact ⟨zeI h.2.1,zkI h.2.2⟩
 ·simp only[Bool.and_eq_true]at h;exact ⟨zgV h.2.1,zfx h.2.2⟩
 ·simp only[Bool.and_eq_true]at h;exact zl8 h.2.2
 cases h
theorem znl{o:Int}(h:isAr o=true):0<=o/\o<256:=by
 simp only[isAr,Bool.or_eq_true,beq_iff_eq]at h;omega
theorem zqS{S:List Sp}{e:Ex}{s:Sp}(h:zaJ S e=some s):Ex.le 1048576 e/\0<=e.op/\e.op<256:=by
 unfold zaJ at h;split at h
 ·split at h
  ·rename_i E;simp only[zaZ,Bool.and_eq_true,beq_iff_eq]at E;exact ⟨⟨zeI E.2.1,zkI E.2.2⟩,by omega,by omega⟩
  cases h
 split at h
 ·split at h
  ·rename_i E;simp only[zaZ,Bool.and_eq_true,beq_iff_eq]at E;exact ⟨⟨zgV E.2.1,zfx E.2.2⟩,by omega,by omega⟩
  cases h
 split at h
 ·split at h
  ·rename_i E;simp only[opOk,Bool.and_eq_true]at E;exact ⟨⟨zeI E.2.1,zfx E.2.2.1⟩,znl E.1⟩
  ·cases h
 cases h
theorem zn7{a:Ac}(h:zav a=true):a.cls.size<=1048576:=by
 unfold zav at h
 repeat' split at h
 ·simp only[gCls,Bool.and_eq_true]at h;exact zgV h.1.1
 ·simp only[Bool.and_eq_true]at h;exact zeI h.1.1
 ·simp only[Bool.and_eq_true]at h;exact zeI h.1
 ·simp only[Bool.and_eq_true]at h;exact zeI h.1
 cases h
theorem zlC{r:Ru}(h:shape r=none):Ru.le 1048576 r/\zg8 r.exprs:=by
 obtain ⟨Z,O⟩:=zgc h;unfold shape at h;split at h
 ·rename_i I;simp only[zck,Bool.and_eq_true,decide_eq_true_eq]at I;split at h
  ·cases h
  ·split at h
   ·cases h
   ·rename_i X;have hS:=(zb0 (es:=r.exprs) (l:=r.exprs) (Spans.nil _) rfl).1;have E:(zat [] r.exprs).length=r.exprs.length:=by have:=hS.1;omega
    have hf:=zgL h;have G:∀ e∈r.exprs,Ex.le 1048576 e/\0<=e.op/\e.op<256:=fun e he=>by
     obtain ⟨i,hi⟩:=List.mem_iff_getElem?.1 he;have U:i<(zat [] r.exprs).length:=by rw[E];exact (List.getElem?_eq_some_iff.1 hi).1
     exact zqS (hS.2 i _ e (List.getElem?_eq_getElem U) hi)
    refine ⟨⟨zgV I.1,⟨by omega,fun p hp=>?_⟩,⟨by have:=I.2.2.2;omega,fun e he=>(G e he).1⟩,by have:=I.2.2.1;omega,fun a ha=>⟨zn7 (hf a ha).1,by have:=(hf a ha).2.1;omega⟩⟩,fun e he=>(G e he).2⟩;have hg:=O p hp;simp only[gPt,gCls,Bool.and_eq_true,decide_eq_true_eq,List.all_eq_true]at hg;exact ⟨zgV hg.1.1,by omega,fun t ht=>zr1 (hg.2.2 t ht)⟩
 cases h
end Go.Proofs.YtjjjagepnnbebaaGreatDoor
namespace Go.Proofs.YtjjjagepnnbebaaGreatDoor
open Go.RowKit
attribute [local go_sem ↓] Go.wp_at_zero Go.wp_at_succ
def rCr(r:Px (List Ru)):Int:=match r with
 | .error f=>f.1
 | .ok _=>0
def rPr(r:Px (List Ru)):Int:=match r with
 | .error f=>(f.2:Int)
 | .ok _=>0
def rLr(r:Px (List Ru)):List Ru:=match r with
 | .error _=>[]
 | .ok (vs,_)=>vs
def PaP(w:World)(C P:Int)(L:List Ru)(e:Ending)(w':World):Prop:=∃ la lc,e=.returned (.agg #[.int .i64 C,.int .i64 P,.slice la L.length lc])/\zdD none w' la L/\L.length<=lc/\Below w.heap.size w w'
theorem zlv.pap{w w':World}{r:Px (List Ru)}{e:Ending}(h:zlv w r e w'):PaP w (rCr r) (rPr r) (rLr r) e w':=by
 obtain ⟨hb,code,pos,la,lc,M,he,hr,hm⟩:=h;have h1:=hr.at;have h2:=zfz hr.row
 cases r with
 | error f=>
  obtain ⟨G,hp,E⟩:=hm;subst E;exact ⟨la,lc,by rw[he,G,hp];rfl,h1,h2,hb⟩
 | ok q=>
  obtain ⟨G,hp,E⟩:=hm;have hl:M.length=q.1.length:=by rw[<- E,List.length_map]
  rw[E]at h1;exact ⟨la,lc,by rw[he,G,hp,hl];rfl,h1,by show q.1.length<=lc;rw[<- hl];exact h2,hb⟩
structure LOk (L:List Ru):Prop where
 sh:(chk L).1≠1
 le:zb3 Ru.le 1048576 L
 ops:∀ x∈L,zg8 x.exprs
 num:∀ r∈L,RuN r
 shp:∀ x∈L,shape x=none
 l16:L.length<=16
theorem lok(src:Bs):LOk (rLr (prR src)):=by
 cases h:prR src with
 | error f=>exact ⟨show (chk []).1≠1 by decide,⟨Nat.zero_le _,fun x hx=>absurd hx (by simp[rLr])⟩,fun x hx=>absurd hx (by simp[rLr]),fun x hx=>absurd hx (by simp[rLr]),fun x hx=>absurd hx (by simp[rLr]),Nat.zero_le _⟩
 | ok q=>
  obtain ⟨rs,l⟩:=q;obtain ⟨h1,h2⟩:=zjk h;exact ⟨h1,⟨by have:=(zp6 h).1;show rs.length<=1048576;omega,fun x hx=>(zlC (h2 x hx)).1⟩,fun x hx=>(zlC (h2 x hx)).2,zhB h,h2,(zp6 h).1⟩
theorem zre(r:Ru):0<(txR r).length:=by
 simp only[txR,List.length_append,List.length_cons];omega
theorem zph{rs:List Ru}(h:rs≠[]):0<(txRs rs).length:=by
 cases rs with
 | nil=>exact absurd rfl h
 | cons r s=>
  have:=zre r;simp only[txRs,List.flatMap_cons,List.length_append];omega
theorem zpS(w:World):(convert 22 9 (.slice none 0 0)).run Tryz.prog w=.ok (.string (mkS [])) w:=by kernel_rfl
theorem zpc{w:World}{base c:Nat}{a:Option Addr}{l:Bs}(h:w.ownsRow base 5 1 (.slice a l.length c) l.length (byV l)):(convert 22 9 (.slice a l.length c)).run Tryz.prog w=.ok (.string (mkS l)) w:=by
 rcases h.2 with ⟨e,E⟩ | ⟨g,cap,cur,e,_⟩
 ·injection e with e1 e2 e3;subst e1;subst e3;have:l=[]:=List.length_eq_zero_iff.1 E;subst this;exact zpS w
 injection e with e1 e2 e3;subst e1;have:=zd5 l w g 0 c 0 l.length (zbZ.owns h) (Nat.zero_le _) (Nat.le_refl _);simpa using this
def PrnN(w:World)(l:Bs)(n:Nat)(e:Ending)(w':World):Prop:=(∃ a c,e=.returned (.slice a n c)/\w'.ownsRow w.heap.size 5 1 (.slice a n c) n (byV l))/\Below w.heap.size w w'
theorem PrnP.len{w w':World}{l:Bs}{n:Nat}{e:Ending}(h:PrnP w l e w')(hn:n=l.length):PrnN w l n e w':=by
 subst hn;exact h
theorem zdj{w:World}{base c n:Nat}{a:Option Addr}{l:Bs}(hn:n=l.length)(h:w.ownsRow base 5 1 (.slice a n c) n (byV l)):(convert 22 9 (.slice a n c)).run Tryz.prog w=.ok (.string (mkS l)) w:=by
 subst hn;exact zpc h
theorem zmw{src:Bs}{rs:List Ru}{l:List Wd}{n base:Nat}(hn:n=src.length)(hp:prR src=.ok (rs,l))(a:Option Addr)(c:Nat)(w:World)(h:w.ownsRow base 5 1 (.slice a n c) n (byV src))(hV:zjn w):Calls Tryz.prog 7 #[.slice a n c] w fun e w'=>∃ la lc,e=.returned (.agg #[.int .i64 0,.int .i64 0,.slice la rs.length lc])/\zdD none w' la rs/\rs.length<=lc/\Below w.heap.size w w':=by
 subst hn;exact znZ hp a c w (zbZ.owns h) (zfz h) (fun b o e=>(h.lt b (by rw[e];rfl)).2) hV
theorem TxA.iPar{u:World}{g:Nat}{v:Value}{T:Bs}(h:TxA u g v T)(hV:zjn u):Calls Tryz.prog 7 #[v] u (PaP u (rCr (prR T)) (rPr (prR T)) (rLr (prR T))):=by
 obtain ⟨a,c,rfl,h1,h2,h3⟩:=h;exact (zem T a c u h1 h2 (fun b o e=>(h3 b o e).2) hV.env hV.err).mono fun e w' hp=>hp.pap
theorem TxA.sPar{u:World}{g:Nat}{v:Value}{T:Bs}(h:TxA u g v T)(E:T.length<=1048576):Calls Tryz.prog 10 #[v] u (PaP u (rCr (prR T)) (rPr (prR T)) (rLr (prR T))):=by
 obtain ⟨a,c,rfl,h1,h2,h3⟩:=h;exact (zgF T a c u h1 h2 E).mono fun e w' hp=>hp.pap
theorem zsr(cd:Bs)(a1:Option Addr)(c1:Nat)(w:World)(h1:zbZ w a1 cd)(hV:zjn w) :
  Calls Tryz.prog 4 #[.slice a1 cd.length c1] w fun e w'=>e=.returned (.bool true)/\Below w.heap.size w w':=by
 by_cases aC:1048576<cd.length
 ·have k1:(1048576:Int)<(cd.length:Int):=by omega
  go_enter Tryz.func4,Tryz.ntmps4;go_wp2_with fail
  go_ret;exact ⟨rfl,Below.refl _ _⟩
 have k1:¬ (1048576:Int)<(cd.length:Int):=by omega
 obtain ⟨T,hT⟩:∃ T,T=dpF cd:=⟨_,rfl⟩
 have bL:T.length<=4934:=by rw[hT];exact zrM cd
 have HV:=hidX (fun u (hu:Below w.heap.size w u)=>hV.later hu);have HD:=hidX (fun u (hu:Below w.heap.size w u)=>ziI cd a1 c1 u (h1.below hu) (by omega));rw[<- hT]at HD;clear h1 aC hV hT;have SM:=hidX (fun u v g (h:TxA u g v T)=>h.sPar (by omega));have IM:=hidX (fun u v g (h:TxA u g v T) (hu:Below w.heap.size w u)=>h.iPar (HV.out u hu));have G:=hidX (lok T);have aH:Hid (rCr (prR T)=0->rPr (prR T)=0/\((chk (rLr (prR T))).1=0->∃ l,prR (txRs (rLr (prR T)))=.ok (rLr (prR T),l))):=fun hC=>by
  cases h:prR T with
  | error f=>
   rw[h]at hC;exact absurd hC (znX h)
  | ok q=>
   obtain ⟨rs,l⟩:=q;refine ⟨rfl,fun hk=>?_⟩;have:=zka h;exact zlI hk (zhB h) (show (txRs rs).length<=20000 by omega)
 clear bL;generalize rCr (prR T)=C at SM IM aH;generalize rPr (prR T)=P at SM IM aH;generalize rLr (prR T)=L at SM IM G aH;have aG:=hidX (zr4 G.out.le);go_enter Tryz.func4,Tryz.ntmps4;go_upto_region 4 with (first | (go_at_call 11;refine (HD.out w (Below.refl _ _)).mono ?_;rintro e w1 ⟨v1,rfl,bj,aC⟩;have bA:=hidX bj;clear bj) | (go_at_call 10;refine (SM.out w1 v1 _ bA.out).mono ?_;rintro e w2 ⟨a2,c2,rfl,bt,bG,bz⟩) | fail);refine zaf ?_;intro aw aY ba;have aV:Below w.heap.size w w2:=aC.trans (bz.mono aC.size);have aB:=hidX (aV.trans (aY.mono aV.size));have bn:=hidX (bt.below aY);have Q2:=hidX ba;have s2:w2.heap.size<aw.heap.size:=zab ba;clear bt aY ba aC bz aV bA SM;go_upto_region 5 with (first | (go_at_call 11;refine (HD.out aw aB.out).mono ?_;rintro e w3 ⟨v3,rfl,bs,aO⟩;have bh:=hidX bs;clear bs) | (go_at_call 7;refine (IM.out w3 v3 _ bh.out (aB.out.trans (aO.mono aB.out.size))).mono ?_;rintro e w4 ⟨a4,c4,rfl,br,bp,bf⟩) | fail);refine zaf ?_;intro ab aX bb;have aD:Below aw.heap.size aw w4:=aO.trans (bf.mono aO.size);have ak:Below aw.heap.size aw ab:=aD.trans (aX.mono aD.size);have ad:=hidX (aB.out.trans (ak.mono aB.out.size));have aL:=hidX (br.below aX);have ar:=hidX (bn.out.below ak);have Q4:=hidX bb;have aM:=hidX ((ak.block _ s2).trans Q2.out);have s4:w4.heap.size<ab.heap.size:=zab bb;have bS:=ak.size;clear br aX bb aO bf aD ak bh IM HD bn Q2 aB;have p0:=zae (L:=[_,_,_]) Q4.out (j:=0) rfl;have p1:=zae (L:=[_,_,_]) Q4.out (j:=1) rfl;have p2:=zae (L:=[_,_,_]) Q4.out (j:=2) rfl;have q0:=zae (L:=[_,_,_]) aM.out (j:=0) rfl;have q1:=zae (L:=[_,_,_]) aM.out (j:=1) rfl;have q2:=zae (L:=[_,_,_]) aM.out (j:=2) rfl;have ay:=hidX (fun u (hu:Below ab.heap.size ab u)=>zea a4 c4 L u (aL.out.below hu) bp G.out.le G.out.ops);have al:=hidX (fun u (hu:Below ab.heap.size ab u)=>zd3 a2 c2 L none u (ar.out.below hu) bG G.out.le G.out.ops G.out.shp G.out.l16);have aW:=G.out.sh;have bC:Hid ((chk L).1=0 ↔ (chk L).1=0):=Iff.rfl;unfold ckV at ay al;generalize aR:(chk L).1=z0 at ay al aW;generalize (chk L).2.1=z1 at ay al;generalize (chk L).2.2=z2 at ay al;go_upto_region 8 with (first | (go_at_call 8;refine (zc7 a4 a2 c4 c2 L ab aL.out ar.out aG.out).mono ?_;rintro e w5 ⟨rfl,aF⟩;have bJ:=zaa aF p2) | (go_at_call 9;refine (ay.out w5 aF).mono ?_;rintro e w6 ⟨rfl,bi⟩) | fail);refine zaf ?_;intro ax bu bc;have aJ:Below ab.heap.size ab w6:=aF.trans (bi.mono aF.size);have ag:Below ab.heap.size ab ax:=aJ.trans (bu.mono aJ.size);have aj:=hidX ag;have r0:=zae (L:=[_,_,_]) bc (j:=0) rfl;have s6:w6.heap.size<ax.heap.size:=zab bc;have bP:=ag.size;have x0:=zaa ag q0;have x2:=zaa ag q2;have y2:=zaa ag p2;clear q0 q1 q2 p0 p1 p2 bJ ag aJ bu aF bi bc Q4 aM ay aG;have bI:(z0==1)=false:=by simpa using aW
 by_cases hC:C=0
 case neg=>
  have bT:(C != 0)=true:=by simpa using hC
  go_wp2_with fail
  go_ret;exact ⟨rfl,ad.out.trans (aj.out.mono ad.out.size)⟩
 subst hC;have bM:∀ w:World,(Instr.field 31 (.agg #[.int .i64 z0,.int .i64 z1,.int .i64 z2]) 0).run Tryz.prog w=.ok (.int .i64 z0) w:=fun _=>by kernel_rfl
 by_cases hz:z0=0
 case neg=>
  have bR:(z0 != 0)=true:=by simpa using hz
  go_wp2_with (first | (go_at_call 12;refine (al.out ax aj.out).mono ?_;rintro e w7 ⟨rfl,ao⟩) | fail);go_ret;exact ⟨rfl,ad.out.trans ((aj.out.trans (ao.mono aj.out.size)).mono ad.out.size)⟩
 subst hz;obtain ⟨hP,bl⟩:=aH.out rfl;obtain ⟨lw,aZ⟩:=bl aR;obtain ⟨X,hX⟩:∃ X,X=txRs L:=⟨_,rfl⟩
 obtain ⟨n,hn⟩:∃ n,n=X.length:=⟨_,rfl⟩
 have af:=hidX hn;have aU:=hidX (fun u (hu:Below ab.heap.size ab u) a c (hr:zdD none u a L) (hc:L.length<=c)=>(show Calls Tryz.prog 5 #[.slice a L.length c] u (PrnP u X) from by
  rw[hX,<- zlF aR];exact zlY L a c none u hr hc G.out.le G.out.ops G.out.num (HV.out u (ad.out.trans (hu.mono ad.out.size))).tab).mono fun e w' h=>h.len af.out)
 rw[<- hX]at aZ;have aG:=hidX (zr4 G.out.le);have bD:=hidX (show L≠[]->0<n from fun h=>by rw[hn,hX];exact zph h);have bF:=hidX (show L=[]->n=0 from fun h=>by rw[hn,hX,h];rfl);clear hX bl aH aR hn;go_upto_region 13 with (first | (go_at_call 12;refine (al.out ax aj.out).mono ?_;rintro e w7 ⟨rfl,ao⟩;have bK:=zaa ao y2;have aE:=hidX (aj.out.trans (ao.mono aj.out.size))) | (go_at_call 5;refine (aU.out w7 aE.out a4 c4 (aL.out.below aE.out) bp).mono ?_;rintro e w8 ⟨⟨A8,C8,rfl,ap⟩,a8⟩) | fail);have aN:=hidX (aE.out.trans (a8.mono aE.out.size));have aq:Below ax.heap.size ax w8:=ao.trans (a8.mono ao.size);have r8:=zaa aq r0;have x8:=zaa aq x2;have bQ:=aq.size;have bm:=hidX (zmw af.out aZ A8 C8 w8 ap (HV.out _ (ad.out.trans (aN.out.mono ad.out.size))));have bo:=hidX ap;clear ap ao a8 aq r0 x0 x2 y2 bK aE aj al bM aZ;go_upto_region 14 with (first | (go_at_call 7;refine bm.out.mono ?_;rintro e w9 ⟨a9,c9,rfl,bd,bN,a7⟩) | fail);refine zaf ?_;intro ae aT aS;have ah:Below w8.heap.size w8 ae:=a7.trans (aT.mono a7.size);have az:=hidX (aN.out.trans (ah.mono aN.out.size));have a6:=hidX (fun u (hu:Below ae.heap.size ae u)=>(bd.below aT).below hu);have aQ:=hidX (fun u (hu:Below ae.heap.size ae u)=>ar.out.below (az.out.trans (hu.mono az.out.size)));have r9:=zaa ah r8;have x9:=zaa ah x8;have t0:=zae (L:=[_,_,_]) aS (j:=0) rfl;have t2:=zae (L:=[_,_,_]) aS (j:=2) rfl;have aA:=hidX (zao bo.out ah);have aP:=hidX (fun u (hu:Below ae.heap.size ae u)=>aU.out u (az.out.trans (hu.mono az.out.size)) a9 c9 (a6.out u hu) bN);have B9:=hidX (ad.out.trans (az.out.mono ad.out.size));clear bd aT aS a7 ah r8 x8 bo aN bm aU az ar aL HV;clear aW bI bC G ad;by_cases hL:L=[]
 focus
  obtain rfl:n=0:=bF.out hL;have hl:((L.length:Int)==0)=true:=by rw[hL];rfl
  clear hL;refine wp_region_noPanic ?_;refine wp_region_held_drew (S:=(fun w'=>w'.cell? ⟨w6.heap.size,0,none⟩=some (.int .i64 0)/\w'.cell? ⟨w9.heap.size,0,none⟩=some (.int .i64 0)/\w'.cell? ⟨w9.heap.size,2,none⟩=some (.slice a9 L.length c9)/\w'.cell? ⟨w2.heap.size,2,none⟩=some (.slice a2 L.length c2)/\(convert 22 9 (.slice A8 0 C8)).run Tryz.prog w'=.ok (.string (mkS X)) w')) (by kernel_rfl) ?_ (fun E=>?_)
  ·(try dsimp only);(refine ⟨?_,?_,?_,?_,?_⟩ <;> first | exact zaa (Below.refl _ _).drew (by assumption) | exact zdj af.out (zao aA.out (Below.refl _ _).drew))
  refine tk 0 E ?_;(try simp only[pA,pZ,pS]);refine tk 1 E ?_;(try simp only[pA,pZ,pS]);refine tk 2 E ?_;(try simp only[pA,pZ,pS]);refine tk 3 E ?_;(try simp only[pA,pZ,pS]);refine tk 4 E ?_;(try simp only[pA,pZ,pS]);refine tk 5 E ?_;(try simp only[pA,pZ,pS]);refine tk 6 E ?_;(try simp only[pA,pZ,pS]);refine tk 7 E ?_;(try simp only[pA,pZ,pS]);refine tk 8 E ?_;(try simp only[pA,pZ,pS]);refine tk 9 E ?_;(try simp only[pA,pZ,pS]);refine tk 10 E ?_;(try simp only[pA,pZ,pS]);refine tk 11 E ?_;(try simp only[pA,pZ,pS]);refine tk 12 E ?_;(try simp only[pA,pZ,pS]);refine r1 13 fun K hK=>?_;go_simp;(go_at_call 8;refine (zc7 a9 a2 c9 c2 L _ (a6.out _ (Below.refl _ _).drew) (aQ.out _ (Below.refl _ _).drew) aG.out).mono ?_;rintro e aK ⟨rfl,U⟩;have O:=hidX ((Below.refl _ _).drew.trans U:Below ae.heap.size ae aK);have aI:=zdj af.out (zao aA.out O.out));(try go_wp2_with fail);refine hK.out _ _ (by (try dsimp only);(go_split_ands;refine ⟨?_,?_,?_,?_,?_⟩ <;> first | assumption | exact zaa I (by assumption) | exact zaa U (by assumption))) fun hQ=>?_;replace E:=hQ;clear hK K hQ;(try simp only[pA,pZ,pS,pN]);refine tk 14 E ?_;(try simp only[pA,pZ,pS]);refine tk 15 E ?_;(try simp only[pA,pZ,pS]);refine tk 16 E ?_;(try simp only[pA,pZ,pS]);refine tk 17 E ?_;(try simp only[pA,pZ,pS]);refine tk 20 E ?_;(try simp only[pA,pZ,pS]);refine tk 21 E ?_;(try simp only[pA,pZ,pS]);refine r1 18 fun K hK=>?_;go_simp;(go_at_call 5;refine (aP.out aK O.out).mono ?_;rintro e bH ⟨⟨bB,bO,rfl,Z⟩,I⟩;have au:=hidX (O.out.trans (I.mono O.out.size));have bw:=zdj af.out (zao aA.out au.out);have bk:=zdj af.out Z;clear aI Z);(try go_wp2_with fail);refine hK.out _ _ (by (try dsimp only);(go_split_ands;refine ⟨?_,?_,?_,?_,?_⟩ <;> first | assumption | exact zaa I (by assumption) | exact zaa U (by assumption))) fun hQ=>?_;replace E:=hQ;clear hK K hQ;(try simp only[pA,pZ,pS,pN]);refine r1 19 fun K hK=>?_;go_simp;refine hK.out _ _ (by (try dsimp only);(go_split_ands;refine ⟨?_,?_,?_,?_,?_⟩ <;> first | assumption | exact zaa I (by assumption) | exact zaa U (by assumption))) fun hQ=>?_;replace E:=hQ;clear hK K hQ;(try simp only[pA,pZ,pS,pN]);refine tk 22 E ?_;(try simp only[pA,pZ,pS]);refine tk 23 E ?_;(try simp only[pA,pZ,pS]);refine tk 24 E ?_;(try simp only[pA,pZ,pS]);refine tk 25 E ?_;(try simp only[pA,pZ,pS]);refine tk 26 E ?_;(try simp only[pA,pZ,pS]);refine tk 27 E ?_;(try simp only[pA,pZ,pS]);refine tk 28 E ?_;(try simp only[pA,pZ,pS]);refine tk 29 E ?_;(try simp only[pA,pZ,pS]);refine tk 30 E ?_;(try simp only[pA,pZ,pS]);refine tk 31 E ?_;(try simp only[pA,pZ,pS]);refine tk 32 E ?_
 rotate_left
 focus
  obtain ⟨m,rfl⟩:∃ m,n=m+1:=⟨n - 1,by have:=bD.out hL;omega⟩
  clear hL;refine wp_region_noPanic ?_;refine wp_region_held_drew (S:=(fun w'=>w'.cell? ⟨w6.heap.size,0,none⟩=some (.int .i64 0)/\w'.cell? ⟨w9.heap.size,0,none⟩=some (.int .i64 0)/\w'.cell? ⟨w9.heap.size,2,none⟩=some (.slice a9 L.length c9)/\w'.cell? ⟨w2.heap.size,2,none⟩=some (.slice a2 L.length c2)/\(convert 22 9 (.slice A8 (m+1) C8)).run Tryz.prog w'=.ok (.string (mkS X)) w')) (by kernel_rfl) ?_ (fun E=>?_)
  ·(try dsimp only);(refine ⟨?_,?_,?_,?_,?_⟩ <;> first | exact zaa (Below.refl _ _).drew (by assumption) | exact zdj af.out (zao aA.out (Below.refl _ _).drew))
  refine tk 0 E ?_;(try simp only[pA,pZ,pS]);refine tk 1 E ?_;(try simp only[pA,pZ,pS]);refine tk 2 E ?_;(try simp only[pA,pZ,pS]);refine tk 3 E ?_;(try simp only[pA,pZ,pS]);refine tk 4 E ?_;(try simp only[pA,pZ,pS]);refine tk 5 E ?_;(try simp only[pA,pZ,pS]);refine tk 6 E ?_;(try simp only[pA,pZ,pS]);refine tk 7 E ?_;(try simp only[pA,pZ,pS]);refine tk 8 E ?_;(try simp only[pA,pZ,pS]);refine tk 9 E ?_;(try simp only[pA,pZ,pS]);refine tk 10 E ?_;(try simp only[pA,pZ,pS]);refine tk 11 E ?_;(try simp only[pA,pZ,pS]);refine tk 12 E ?_;(try simp only[pA,pZ,pS]);refine r1 13 fun K hK=>?_;go_simp;(go_at_call 8;refine (zc7 a9 a2 c9 c2 L _ (a6.out _ (Below.refl _ _).drew) (aQ.out _ (Below.refl _ _).drew) aG.out).mono ?_;rintro e aK ⟨rfl,U⟩;have O:=hidX ((Below.refl _ _).drew.trans U:Below ae.heap.size ae aK);have aI:=zdj af.out (zao aA.out O.out));(try go_wp2_with fail);refine hK.out _ _ (by (try dsimp only);(go_split_ands;refine ⟨?_,?_,?_,?_,?_⟩ <;> first | assumption | exact zaa I (by assumption) | exact zaa U (by assumption))) fun hQ=>?_;replace E:=hQ;clear hK K hQ;(try simp only[pA,pZ,pS,pN]);refine tk 14 E ?_;(try simp only[pA,pZ,pS]);refine tk 15 E ?_;(try simp only[pA,pZ,pS]);refine tk 16 E ?_;(try simp only[pA,pZ,pS]);refine tk 17 E ?_;(try simp only[pA,pZ,pS]);refine tk 20 E ?_;(try simp only[pA,pZ,pS]);refine tk 21 E ?_;(try simp only[pA,pZ,pS]);refine r1 18 fun K hK=>?_;go_simp;(go_at_call 5;refine (aP.out aK O.out).mono ?_;rintro e bH ⟨⟨bB,bO,rfl,Z⟩,I⟩;have au:=hidX (O.out.trans (I.mono O.out.size));have bw:=zdj af.out (zao aA.out au.out);have bk:=zdj af.out Z;clear aI Z);(try go_wp2_with fail);refine hK.out _ _ (by (try dsimp only);(go_split_ands;refine ⟨?_,?_,?_,?_,?_⟩ <;> first | assumption | exact zaa I (by assumption) | exact zaa U (by assumption))) fun hQ=>?_;replace E:=hQ;clear hK K hQ;(try simp only[pA,pZ,pS,pN]);refine r1 19 fun K hK=>?_;go_simp;refine hK.out _ _ (by (try dsimp only);(go_split_ands;refine ⟨?_,?_,?_,?_,?_⟩ <;> first | assumption | exact zaa I (by assumption) | exact zaa U (by assumption))) fun hQ=>?_;replace E:=hQ;clear hK K hQ;(try simp only[pA,pZ,pS,pN]);refine tk 22 E ?_;(try simp only[pA,pZ,pS]);refine tk 23 E ?_;(try simp only[pA,pZ,pS]);refine tk 24 E ?_;(try simp only[pA,pZ,pS]);refine tk 25 E ?_;(try simp only[pA,pZ,pS]);refine tk 26 E ?_;(try simp only[pA,pZ,pS]);refine tk 27 E ?_;(try simp only[pA,pZ,pS]);refine tk 28 E ?_;(try simp only[pA,pZ,pS]);refine tn 29 E ?_;(try simp only[pA,pZ,pS]);refine tn 30 E ?_;(try simp only[pA,pZ,pS]);refine tn 31 E ?_;(try simp only[pA,pZ,pS]);refine tn 32 E ?_
 rotate_left
 all_goals
  (try simp only[pA,pZ,pS]);refine tk 33 E ?_;(try simp only[pA,pZ,pS]);refine tk 34 E ?_;(try simp only[pA,pZ,pS]);refine tk 35 E ?_;(try simp only[pA,pZ,pS]);refine wpAnyH_done (by kernel_rfl) ?_ _;refine NoPanic.normal ?_;go_wp2_with fail
  go_ret;exact ⟨rfl,B9.out.trans (au.out.mono B9.out.size)⟩
end Go.Proofs.YtjjjagepnnbebaaGreatDoor
