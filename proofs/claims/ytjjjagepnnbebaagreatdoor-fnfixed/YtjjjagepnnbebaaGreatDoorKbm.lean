/-
  OUR OWN TEXT. Mr3, Mr4, one behind the other.
-/
import Derived.Test.YtjjjagepnnbebaaGreatDoorKbj
import Derived.Test.YtjjjagepnnbebaaGreatDoorKbf
set_option maxRecDepth 100000
namespace Go.Proofs.YtjjjagepnnbebaaGreatDoor
open Go.RowKit
attribute [local go_sem ↓] Go.wp_at_zero Go.wp_at_succ
structure TsAt (w wr:World) (pb g rb tb lb:Nat) (W:List Wd) (c:Nat) (R:List Value) (s2:Ps) (t:Bs) (k:Nat):Prop where
 mo:MkO (some pb) w wr
 mb:MB wr pb g W c s2 R
 rq:wr.heap[rb]?=some (.cells (tmC ⟨0,0,mkS [],zVr⟩).toArray 95 (0,0))
 tq:wr.heap[tb]?=some (.cells (tmC ⟨3,opK k t,mkS [],zVr⟩).toArray 95 (0,0))
 tx:TxAt wr lb opTx
 ll:lb<wr.heap.size
set_option maxHeartbeats 6400000 in
theorem zm7(w:World)(pb g:Nat)(W:List Wd)(c:Nat)(s:Ps)(R:List Value)(h:MB w pb g W c s R):Calls Tryz.prog 107 #[.pointer (some ⟨pb,0,none⟩)] w (MPost w pb g W c R Rtm (onS s zaX)):=by
 have cH:=mfield2;have HM:=hidX h;have cI:=h.lt;have cD:=h.glt;have cB:=h.far;have cA:=h.caps;have cC:=h.len;clear h;go_enter Tryz.func107,Tryz.ntmps107;go_upto_region 1 with fail
 refine zaf ?_;intro w1 bV bY;have cw:w.heap.size<w1.heap.size:=zab bY;have a8:=HM.out.below bV;obtain ⟨k,x0,hk,c0,c1,aY,b1⟩:=a8.now;have y0:=aY 0 _ rfl;have y1:=aY 1 _ rfl;have y2:=aY 2 _ rfl;have y3:=aY 3 _ rfl;simp only[Nat.add_zero]at y0;have ck:=a8.lt;have cx:=a8.glt;have bm:=hidX b1;have b3:=hidX bY;have M1:=hidX (MkO.of_below bV:MkO (some pb) w w1);have b0:=hidX a8;clear bV bY a8 aY b1;go_region;refine zeV ?_;intro w2 bW bl;have G:=hidX (zch w2 pb g W c s R (b0.out.below bl));have M2:=hidX (M1.out.trans (MkO.of_below bl));have aC:w1.heap.size<w2.heap.size:=zab bW;have aG:=hidX ((bl.block w.heap.size cw).trans b3.out);have aq:=hidX bW;clear c0 c1 y0 y1 y2 y3 bl b3 b0 ck cx bW;obtain ⟨K,hK⟩:∃ K,K=zbx s:=⟨_,rfl⟩
 have aD:=hidX (fun u (hu:MB u pb g W c (zaD s) R)=>zfQ u pb g W c (zaD s) R hu);unfold zco at G;rw[<- hK]at G;by_cases h6:K=6
 ·obtain ⟨x,r,hs,au,aA,az,aN,bn⟩:=zcj HM.out (by decide) (by decide) (hK.symm.trans h6);have aZ:x0=x:=bm.out x r hs;subst aZ;have bX:=zbB (mkS x0.text) [95];rw[zbX]at bX;by_cases hu:x0.text=[95]
  ·have ax:Hid (onS s zaX=.ok (⟨0,0,mkS [],zVr⟩,r)):=show _=_ from by rw[hs];exact zpf aN aA au hu
   have HX:Hid (x0.kind≠0):=show x0.kind≠0 from by omega
   rw[decide_eq_true hu]at bX;rw[az]at G;clear hK hs au aA az hu aD;subst h6;go_upto_region 5 with (first | (go_at_call 21;refine G.out.mono ?_;rintro e w3 ⟨rfl,E,Z⟩;have b2:=zae (L:=[_,_,_,_]) ((E.block w1.heap.size aC (fun e=>by injection e;omega)).trans aq.out) (j:=2) rfl) | fail);obtain ⟨ab,bw,aE,bj,aH⟩:=Z.cells;have d1:=zae ab (j:=1) rfl;have z1:=zax ab 1;have aF:=hidX ab;have bd:=hidX Z;have M3:=hidX (M2.out.trans E);have bo:=E.rest.size;have aJ:=hidX ((E.block w1.heap.size aC (fun e=>by injection e;omega)).trans aq.out);have aj:=hidX ((E.block w.heap.size (by omega) (fun e=>by injection e;omega)).trans aG.out);clear ab Z E aE bj aH G aq aG;go_upto_region 6 with fail
   refine zau aF.out ?_;intro X ad I;replace ad:X.heap[pb]?=some (.cells (.slice (some ⟨g,0,none⟩) W.length c :: .int .i64 ((kOf W r+1:Nat):Int) :: .int .i64 0 :: .int .i64 ((0:Nat):Int) :: R).toArray 64 (0,0)):=by
    rw[ad];simp
   have aO:=hidX (bd.out.next HX.out I ad);have M4:=hidX (M3.out.trans I.mko);have aI:=I.size;have ah:=(I.block w1.heap.size (by omega)).trans aJ.out;have O:=(I.block w.heap.size (by omega)).trans aj.out;have b2:=zae (L:=[_,_,_,_]) ah (j:=2) rfl;have bA:w3.heap.size<=X.heap.size:=Nat.le_of_eq aI.symm;have aQ:=hidX O;clear ad I ah aI aF aJ aj d1 z1;go_wp2_with (first | (refine zac (by rfl) 95 (.tmp 2) (.tmp 32) (by rfl) w.heap.size (tmC ⟨0,0,mkS [],zVr⟩) (by rfl) (by rfl) _ 95 O (by rfl) zba (zca _) ?_;intro w6 aw ae) | fail);have al:=run_loadVar_mid (P:=Tryz.prog) w6 w.heap.size 0 95 (tmC ⟨0,0,mkS [],zVr⟩) _ (zal aw.out) Tryz.underlying95 rfl zba;(try go_frame);exact bodyPost_ret (v:=.agg (tmC ⟨0,0,mkS [],zVr⟩).toArray) (by simp[results,Tryz.results107,asAddr,al]) rfl (MPost.good ax.out (M4.out.turn ae.out (Nat.le_refl _)) rfl (aO.out.turned ae.out (by omega) (by omega)))
  have ax:=hidX (zlo HM.out (fun y r' e=>by have:=bm.out y r' e;subst this;exact fun e'=>hu e'.2) (by omega) (by omega));rw[decide_eq_false hu]at bX;clear hK hs au aA az hu aN bn;subst h6;go_wp2_with (first | (go_at_call 21;refine G.out.mono ?_;rintro e w3 ⟨rfl,E,Z⟩;have b2:=zae (L:=[_,_,_,_]) ((E.block w1.heap.size aC (fun e=>by injection e;omega)).trans aq.out) (j:=2) rfl) | (go_at_call 147;refine (aD.out _ Z).mono ?_;rintro e X ⟨aX,⟨v,bR,bM⟩,bI⟩;obtain rfl:e=.returned (.agg #[.int .i64 v.kind,.int .i64 v.num,.string v.sym]):=bR;have bo:=E.rest.size;have O:=(aX.block w.heap.size (by omega) (fun e=>by injection e;omega)).trans ((E.block w.heap.size (by omega) (fun e=>by injection e;omega)).trans aG.out)) | (refine zac (by rfl) 95 (.tmp 2) (.tmp 89) (by rfl) w.heap.size (tmC ⟨1,0,mkS [],v⟩) (by rfl) (by rfl) _ 95 O (by rfl) zba (zca _) ?_;intro w6 aw ae) | fail);have al:=run_loadVar_mid (P:=Tryz.prog) w6 w.heap.size 0 95 (tmC ⟨1,0,mkS [],v⟩) _ (zal aw.out) Tryz.underlying95 rfl zba;(try go_frame);refine bodyPost_ret (v:=.agg (tmC ⟨1,0,mkS [],v⟩).toArray) (by simp[results,Tryz.results107,asAddr,al]) rfl ?_;have M6:=((M2.out.trans E).trans aX).turn ae.out (Nat.le_refl _);have ay:=bI.turned ae.out (by omega) (by omega);rw[ax.out]
  cases aM:onS (zaD s) pVal with
  | error f=>
   rw[aM]at ay;exact MPost.err ⟨1,0,mkS [],v⟩ rfl M6 rfl ay
  | ok q=>
   obtain ⟨v',l'⟩:=q;obtain rfl:=bM v' l' aM;rw[aM]at ay;exact MPost.good rfl M6 rfl ay
 by_cases h4:K=4
 ·obtain ⟨x,r,hs,au,aA,az,aN,bn⟩:=zcj HM.out (by decide) (by decide) (hK.symm.trans h4);have aZ:x0=x:=bm.out x r hs;subst aZ;have ax:Hid (onS s zaX=.ok (⟨2,0,mkS x0.text.tail,zVr⟩,r)):=show _=_ from by rw[hs];exact zoU aN aA au
  have HX:Hid (x0.kind≠0):=show x0.kind≠0 from by omega
  have aP:=zir aN au;have bP:=hidX (ziw aP);have hsz:0<(mkS x0.text).size:=by rw[zgM];exact aP
  have cd:(mkS x0.text).size<=20000:=by rw[zgM];exact bn
  rw[az]at G;clear hK hs au aA az h6 aD aP;subst h4;go_upto_region 8 with (first | (go_at_call 21;refine G.out.mono ?_;rintro e w3 ⟨rfl,E,Z⟩;have b2:=zae (L:=[_,_,_,_]) ((E.block w1.heap.size aC (fun e=>by injection e;omega)).trans aq.out) (j:=2) rfl) | fail);obtain ⟨ab,bw,aE,bj,aH⟩:=Z.cells;have d1:=zae ab (j:=1) rfl;have z1:=zax ab 1;have aF:=hidX ab;have bd:=hidX Z;have M3:=hidX (M2.out.trans E);have bo:=E.rest.size;have aJ:=hidX ((E.block w1.heap.size aC (fun e=>by injection e;omega)).trans aq.out);have aj:=hidX ((E.block w.heap.size (by omega) (fun e=>by injection e;omega)).trans aG.out);clear ab Z E aE bj aH G aq aG;go_upto_region 9 with fail
  refine zau aF.out ?_;intro X ad I;replace ad:X.heap[pb]?=some (.cells (.slice (some ⟨g,0,none⟩) W.length c :: .int .i64 ((kOf W r+1:Nat):Int) :: .int .i64 0 :: .int .i64 ((0:Nat):Int) :: R).toArray 64 (0,0)):=by
   rw[ad];simp
  have aO:=hidX (bd.out.next HX.out I ad);have M4:=hidX (M3.out.trans I.mko);have aI:=I.size;have ah:=(I.block w1.heap.size (by omega)).trans aJ.out;have O:=(I.block w.heap.size (by omega)).trans aj.out;have b2:=zae (L:=[_,_,_,_]) ah (j:=2) rfl;have bA:w3.heap.size<=X.heap.size:=Nat.le_of_eq aI.symm;have aQ:=hidX O;clear ad I ah aI aF aJ aj d1 z1;go_wp2_with (first | (refine zac (by rfl) 95 (.tmp 2) (.tmp 45) (by rfl) w.heap.size (tmC ⟨2,0,(mkS x0.text).extract 1 (mkS x0.text).size,zVr⟩) (by rfl) (by rfl) _ 95 O (by rfl) zba (zca _) ?_;intro w6 aw ae) | fail);have al:=run_loadVar_mid (P:=Tryz.prog) w6 w.heap.size 0 95 (tmC ⟨2,0,(mkS x0.text).extract 1 (mkS x0.text).size,zVr⟩) _ (zal aw.out) Tryz.underlying95 rfl zba;(try go_frame);exact bodyPost_ret (v:=.agg (tmC ⟨2,0,(mkS x0.text).extract 1 (mkS x0.text).size,zVr⟩).toArray) (by simp[results,Tryz.results107,asAddr,al]) rfl (MPost.good ax.out (M4.out.turn ae.out (Nat.le_refl _)) (by rw[bP.out];rfl) (aO.out.turned ae.out (by omega) (by omega)))
 by_cases h1:K=1
 ·obtain ⟨x,r,hs,au,aA,az,aN,bn⟩:=zcj HM.out (by decide) (by decide) (hK.symm.trans h1);have aZ:x0=x:=bm.out x r hs;subst aZ;have ax:Hid (onS s zaX=zbM r):=show _=_ from by rw[hs];exact zm2 aN aA au
  have HX:Hid (x0.kind≠0):=show x0.kind≠0 from by omega
  rw[az]at G;clear hK hs au aA az h6 h4 aD;subst h1;go_upto_region 11 with (first | (go_at_call 21;refine G.out.mono ?_;rintro e w3 ⟨rfl,E,Z⟩;have b2:=zae (L:=[_,_,_,_]) ((E.block w1.heap.size aC (fun e=>by injection e;omega)).trans aq.out) (j:=2) rfl) | fail);obtain ⟨ab,bw,aE,bj,aH⟩:=Z.cells;have d1:=zae ab (j:=1) rfl;have z1:=zax ab 1;have aF:=hidX ab;have bd:=hidX Z;have M3:=hidX (M2.out.trans E);have bo:=E.rest.size;have aJ:=hidX ((E.block w1.heap.size aC (fun e=>by injection e;omega)).trans aq.out);have aj:=hidX ((E.block w.heap.size (by omega) (fun e=>by injection e;omega)).trans aG.out);clear ab Z E aE bj aH G aq aG;go_upto_region 12 with fail
  refine zau aF.out ?_;intro X ad I;replace ad:X.heap[pb]?=some (.cells (.slice (some ⟨g,0,none⟩) W.length c :: .int .i64 ((kOf W r+1:Nat):Int) :: .int .i64 0 :: .int .i64 ((0:Nat):Int) :: R).toArray 64 (0,0)):=by
   rw[ad];simp
  have aO:=hidX (bd.out.next HX.out I ad);have M4:=hidX (M3.out.trans I.mko);have aI:=I.size;have ah:=(I.block w1.heap.size (by omega)).trans aJ.out;have O:=(I.block w.heap.size (by omega)).trans aj.out;have b2:=zae (L:=[_,_,_,_]) ah (j:=2) rfl;have bA:w3.heap.size<=X.heap.size:=Nat.le_of_eq aI.symm;have aQ:=hidX O;clear ad I ah aI aF aJ aj d1 z1;go_upto_region 13 with fail
  refine zaf ?_;intro w5 br bJ;have s5:X.heap.size<w5.heap.size:=zab bJ;have b7:=hidX (aO.out.below br);have b8:=hidX aO.out.good;have M5:=hidX (M4.out.trans (MkO.of_below br));have bs:=hidX ((br.block w.heap.size (by omega)).trans aQ.out);have bt:=hidX (show w5.heap[X.heap.size]?=some (.cells (tmC ⟨3,0,mkS [],zVr⟩).toArray 95 (0,0)) from bJ);have aU:=zHA w5;have b9:=hidX (zfc (w5.alloc (.cells #[.string ⟨#[61]⟩,.string ⟨#[33,61]⟩,.string ⟨#[60]⟩,.string ⟨#[62]⟩,.string ⟨#[60,61]⟩,.string ⟨#[62,61]⟩] 9)) pb g w5.heap.size 6 W c (.ok r) R 6 opTx (by decide) (by decide) (zlj _) (by omega) (by simp) (by decide) (b7.out.below (aU.out _)));clear br bJ M4 aO aQ O;go_upto_region 14 with (first | (go_at_call 103;refine (zj0 _).mono ?_;rintro e wt ⟨rfl,rfl⟩) | (go_at_call 57;refine b9.out.mono ?_;rintro e w6 ⟨bf,⟨t,cz,ae⟩,aw⟩;obtain rfl:e=.returned (.string (mkS t)):=cz) | fail);obtain ⟨s2,bL⟩:∃ s2,s2=stS (oneM 6 opTx r):=⟨_,rfl⟩
  have bz:MB w6 pb g W c s2 R:=by rw[bL];exact aw
  have s6:=bf.rest.size;simp at s6;have bi:=zHA w6;have TS:=hidX (show TsAt w (w6.alloc (.cells #[.string ⟨#[61]⟩,.string ⟨#[33,61]⟩,.string ⟨#[60]⟩,.string ⟨#[62]⟩,.string ⟨#[60,61]⟩,.string ⟨#[62,61]⟩] 9)) pb g w.heap.size X.heap.size w6.heap.size W c R s2 t 0 from
   ⟨((M5.out.trans (MkO.of_below (aU.out _))).trans bf).trans (MkO.of_below (bi.out _)),bz.below (bi.out _),
    ((bi.out _).block w.heap.size (by omega)).trans ((bf.block w.heap.size (by simp;omega) (fun e=>by injection e;omega)).trans (((aU.out _).block w.heap.size (by omega)).trans bs.out)),
    by rw[zoM];exact ((bi.out _).block X.heap.size (by omega)).trans ((bf.block X.heap.size (by simp;omega) (fun e=>by injection e;omega)).trans (((aU.out _).block X.heap.size (by omega)).trans bt.out)),
    zlj _,by simp⟩)
  have cc:=hidX bL;have b5:=hidX ae;have cF:X.heap.size<w6.heap.size:=by omega
  clear bf aw bz bL ae b9 aU bi M5 b7 bs bt;go_wp2_with (first | (go_at_call 103;refine (zj0 _).mono ?_;rintro e wt ⟨rfl,rfl⟩) | fail)
  go_loopw [61] (fun i wr=>∃ (j:Nat),j<=6/\i=.int .i64 j/\TsAt w wr pb g w.heap.size X.heap.size w6.heap.size W c R s2 t j) (fun i _=>6 - (intOf i).toNat)
  case atStart=>exact ⟨0,by omega,rfl,TS.out⟩
  case round=>
   obtain ⟨j,hj,rfl,ak⟩:=hrel;have TR:=hidX ak;clear TS;by_cases bH:j<6
   ·obtain ⟨S,hS⟩:∃ S,S=mkS (opTx.getD j []):=⟨_,rfl⟩
    have cS:wr.cell? ⟨w6.heap.size,j,none⟩=some (.string S):=by
     rw[hS];refine ak.tx j _ ?_;rw[List.getD_eq_getElem?_getD];have:j<opTx.length:=bH;simp[List.getElem?_eq_getElem this]
    have cG:=ak.ll;have z0:(0:Int)<=(j:Int):=by omega
    have z1:(j:Int)<6:=by omega
    have d1:=zae ak.tq (j:=1) rfl;have f1:=zax ak.tq 1;have cu:X.heap.size<wr.heap.size:=zab ak.tq;have HS:=hidX hS;have cJ:IntKind.i64.wrap ((j:Int)+1)=(j:Int)+1:=by rw[IntKind.wrap_i64];omega
    clear ak hS
    cases e1:(S.toList==(mkS t).toList)
    ·go_wp2_with fail
     have cp:zaH t≠j+1:=fun e=>by
      have:=(zjl bH t).2 e;rw[HS.out,this]at e1;simp at e1
     go_roundw
     case rel=>exact ⟨j+1,by omega,by go_num,TR.out.mo,TR.out.mb,TR.out.rq,by rw[zpv cp];exact TR.out.tq,TR.out.tx,TR.out.ll⟩
     case measure=>simp[intOf];omega
    go_upto_region 19 with fail
    have cv:zaH t=j+1:=by
     rw[zb1]at e1;have e2:S=mkS t:=by simpa using e1
     refine (zjl bH t).1 ?_;rw[<- zbX (opTx.getD j []),<- HS.out,e2,zbX]
    refine zau TR.out.tq ?_;intro w7 cf aT;have s7:=aT.size;have T7:=hidX (show TsAt w w7 pb g w.heap.size X.heap.size w6.heap.size W c R s2 t (j+1) from ⟨TR.out.mo.turn aT (by omega),TR.out.mb.turned aT (by omega) (by omega),(aT.block w.heap.size (by omega)).trans TR.out.rq,by rw[zrc cv];simpa[tmC] using cf,TR.out.tx.block (aT.block w6.heap.size (by omega)),by have:=TR.out.ll;omega⟩);clear cf aT d1 f1 cS s7;go_wp2_with fail
    go_roundw
    case rel=>exact ⟨j+1,by omega,by go_num,T7.out⟩
    case measure=>simp[intOf];omega
   obtain rfl:j=6:=by omega
   have bQ:Hid (wr.heap[X.heap.size]?=some (.cells (tmC ⟨3,(zaH t:Int),mkS [],zVr⟩).toArray 95 (0,0))):=show _=_ from by rw[<- zqi];exact ak.tq
   obtain ⟨ix,bZ⟩:∃ ix:Int,ix=(zaH t:Int):=⟨_,rfl⟩
   rw[<- bZ]at bQ;have ce:=hidX bZ;have cu:X.heap.size<wr.heap.size:=zab ak.tq;have G:=hidX (zch wr pb g W c s2 R ak.mb);have cE:g<wr.heap.size:=ak.mb.glt;clear ak bZ;unfold zco at G;obtain ⟨K2,aS⟩:∃ K2,K2=zbx s2:=⟨_,rfl⟩
   rw[<- aS]at G;by_cases aR:K2=4
   ·obtain ⟨x,r2,bk,bF,bB,bu,bG,b4⟩:=zlg TR.out.mb rel63 (by decide) (by decide) (aS.symm.trans aR);have ch:zaj (x :: r2)=.ok (x,r2):=by
     obtain ⟨x',r',e1,_,e2,_⟩:=zcj TR.out.mb (by decide) (by decide) (aS.symm.trans aR);rw[bk]at e1;injection e1 with e1;injection e1 with e1 e3;subst e1;subst e3;exact e2
    have b6:oneM 6 opTx r=.ok (t,x :: r2):=by
     have h2:=cc.out;rw[bk]at h2
     cases ho:oneM 6 opTx r with
     | error f=>rw[ho]at h2;cases h2
     | ok q=>
      obtain ⟨t',l'⟩:=q;rw[ho]at h2;injection h2 with h2;rw[<- b5.out t' l' ho,h2]
    have HE:=hidX (zpK b8.out b6 bG bF ch);have bC:onS (.ok (x :: r2)) (zai 63)=.ok (x,r2):=by rw[<- bk];exact bB
    rw[bu]at G;have bp:=hidX (fun u (hu:MB u pb g W c (.ok (x :: r2)) R)=>zbw u pb g W c (.ok (x :: r2)) R 4 63 rel63 (by decide) (by decide) hu);unfold MPost at bp;rw[bC]at bp;have ca:=hidX (fun u (hu:MB u pb g W c (.ok r2) R)=>zbw u pb g W c (.ok r2) R 2 41 rel41 (by decide) (by decide) hu);have aP:=zir bG bF;have bP:=hidX (ziw aP);have hsz:0<(mkS x.text).size:=by rw[zgM];exact aP
    have cd:(mkS x.text).size<=20000:=by rw[zgM];exact b4
    clear aS bk bB bu bC ch b6 aP;subst aR;go_upto_region 21 with (first | (go_at_call 21;refine G.out.mono ?_;rintro e w7 ⟨rfl,ar,a7⟩) | fail);have s7:=ar.rest.size;have bD:=hidX (bp.out _ a7);clear G bp a7;go_upto_region 23 with (first | (go_at_call 56;refine bD.out.mono ?_;rintro e w8 ⟨ap,⟨y8,bN,cn⟩,bh⟩;obtain rfl:e=.returned (wdA y8):=bN;obtain rfl:=cn _ _ rfl;unfold wdA;have s8:=ap.rest.size;have ag:=(ap.block X.heap.size (by omega) (fun e=>by injection e;omega)).trans ((ar.block X.heap.size (by omega) (fun e=>by injection e;omega)).trans bQ.out);have d2:=zae ag (j:=2) rfl;have f2:=zax ag 2) | fail);refine zau ag ?_;intro w9 aV ao;have s9:=ao.size;have bT:=hidX (show w9.heap[X.heap.size]?=some (.cells (tmC ⟨3,ix,(mkS x.text).extract 1 (mkS x.text).size,zVr⟩).toArray 95 (0,0)) from by simpa[tmC] using aV);have M9:=hidX (((TR.out.mo.trans ar).trans ap).turn ao (by omega));have R9:=hidX ((ao.block w.heap.size (by omega)).trans ((ap.block w.heap.size (by omega) (fun e=>by injection e;omega)).trans ((ar.block w.heap.size (by omega) (fun e=>by injection e;omega)).trans TR.out.rq)));have aB:=hidX (ca.out w9 (bh.turned ao (by omega) (by omega)));have bK:X.heap.size<w9.heap.size:=by omega
    have ci:g<w9.heap.size:=by omega
    clear ca bD ag d2 f2 aV ao ar ap bh;go_upto_region 24 with (first | (go_at_call 56;refine aB.out.mono ?_;rintro e cy ⟨U,⟨bU,ba,_⟩,aK⟩;obtain rfl:e=.returned (wdA bU):=ba;unfold wdA) | fail);have cr:=U.rest.size;have aW:=(U.block X.heap.size bK (fun e=>by injection e;omega)).trans bT.out;have bc:=(U.block w.heap.size (by omega) (fun e=>by injection e;omega)).trans R9.out;have bb:=hidX aK;have bO:=hidX (M9.out.trans U);clear U aK aB;go_wp2_with (first | (refine zam (by rfl) 95 (.tmp 4) (by rfl) X.heap.size (tmC ⟨3,ix,(mkS x.text).extract 1 (mkS x.text).size,zVr⟩) (by rfl) 95 (0,0) aW _ Tryz.underlying95 rfl zba ?_) | (refine zac (by rfl) 95 (.tmp 2) (.tmp 86) (by rfl) w.heap.size (tmC ⟨3,ix,(mkS x.text).extract 1 (mkS x.text).size,zVr⟩) (by rfl) (by rfl) _ 95 bc (by rfl) zba (zca _) ?_;intro bS a1 aL) | fail);have al:=run_loadVar_mid (P:=Tryz.prog) bS w.heap.size 0 95 (tmC ⟨3,ix,(mkS x.text).extract 1 (mkS x.text).size,zVr⟩) _ (zal a1.out) Tryz.underlying95 rfl zba;(try go_frame);refine bodyPost_ret (v:=.agg (tmC ⟨3,ix,(mkS x.text).extract 1 (mkS x.text).size,zVr⟩).toArray) (by simp[results,Tryz.results107,asAddr,al]) rfl ?_;have a6:=bO.out.turn aL.out (Nat.le_refl _);have af:=bb.out.turned aL.out (by omega) (by omega);have EQ:onS s zaX=zbM r:=ax.out;rcases HE.out with ⟨f,h1,h2⟩ | ⟨y,l,h1,h2⟩
    ·rw[show onS (.ok r2) (zai 41)=.error f from h2]at af;exact MPost.err ⟨3,ix,(mkS x.text).extract 1 (mkS x.text).size,zVr⟩ (EQ.trans h1) a6 rfl af
    rw[show onS (.ok r2) (zai 41)=.ok (y,l) from h2]at af;exact MPost.good (EQ.trans h1) a6 (by rw[bP.out,ce.out];rfl) af
   have e4:(K2==4)=false:=by simp[aR]
   have aD:=hidX (fun u (hu:MB u pb g W c (zaD s2) R)=>zfQ u pb g W c (zaD s2) R hu);have ct:Hid (zbx s2≠4):=show _≠_ from by rw[<- aS];exact aR
   clear aS aR;go_upto_region 22 with (first | (go_at_call 21;refine G.out.mono ?_;rintro e w7 ⟨rfl,ar,a7⟩) | fail);have s7:=ar.rest.size;have cg:=hidX (aD.out _ a7);clear G aD a7;go_upto_region 23 with (first | (go_at_call 147;refine cg.out.mono ?_;rintro e w8 ⟨ap,⟨v,bN,cj⟩,bh⟩;obtain rfl:e=.returned (.agg #[.int .i64 v.kind,.int .i64 v.num,.string v.sym]):=bN;have s8:=ap.rest.size;have ag:=(ap.block X.heap.size (by omega) (fun e=>by injection e;omega)).trans ((ar.block X.heap.size (by omega) (fun e=>by injection e;omega)).trans bQ.out);have d3:=zae ag (j:=3) rfl;have d4:=zae ag (j:=4) rfl;have d5:=zae ag (j:=5) rfl;have f3:=zax ag 3;have f4:=zax ag 4;have f5:=zax ag 5) | fail);refine zet ag (o:=3) (by simp[tmC]) ?_;intro w9 aV ao;have s9:=ao.size;have bT:=hidX (show w9.heap[X.heap.size]?=some (.cells (tmC ⟨3,ix,mkS [],v⟩).toArray 95 (0,0)) from by simpa[tmC] using aV);have M9:=hidX (((TR.out.mo.trans ar).trans ap).turn ao (by omega));have R9:=hidX ((ao.block w.heap.size (by omega)).trans ((ap.block w.heap.size (by omega) (fun e=>by injection e;omega)).trans ((ar.block w.heap.size (by omega) (fun e=>by injection e;omega)).trans TR.out.rq)));have aB:=hidX (zbw w9 pb g W c _ R 2 41 rel41 (by decide) (by decide) (bh.turned ao (by omega) (by omega)));have HE:=hidX (zpP b8.out cc.out ct.out b5.out cj);have bK:X.heap.size<w9.heap.size:=by omega
   have ci:g<w9.heap.size:=by omega
   clear cg ag d3 d4 d5 f3 f4 f5 aV ao ar ap bh;go_upto_region 24 with (first | (go_at_call 56;refine aB.out.mono ?_;rintro e cy ⟨U,⟨bU,ba,_⟩,aK⟩;obtain rfl:e=.returned (wdA bU):=ba;unfold wdA) | fail);have cr:=U.rest.size;have aW:=(U.block X.heap.size bK (fun e=>by injection e;omega)).trans bT.out;have bc:=(U.block w.heap.size (by omega) (fun e=>by injection e;omega)).trans R9.out;have bb:=hidX aK;have bO:=hidX (M9.out.trans U);clear U aK aB;go_wp2_with (first | (refine zam (by rfl) 95 (.tmp 4) (by rfl) X.heap.size (tmC ⟨3,ix,mkS [],v⟩) (by rfl) 95 (0,0) aW _ Tryz.underlying95 rfl zba ?_) | (refine zac (by rfl) 95 (.tmp 2) (.tmp 86) (by rfl) w.heap.size (tmC ⟨3,ix,mkS [],v⟩) (by rfl) (by rfl) _ 95 bc (by rfl) zba (zca _) ?_;intro bS a1 aL) | fail);have al:=run_loadVar_mid (P:=Tryz.prog) bS w.heap.size 0 95 (tmC ⟨3,ix,mkS [],v⟩) _ (zal a1.out) Tryz.underlying95 rfl zba;(try go_frame);refine bodyPost_ret (v:=.agg (tmC ⟨3,ix,mkS [],v⟩).toArray) (by simp[results,Tryz.results107,asAddr,al]) rfl ?_;have a6:=bO.out.turn aL.out (Nat.le_refl _);have af:=bb.out.turned aL.out (by omega) (by omega);have EQ:onS s zaX=zbM r:=ax.out;rcases HE.out with ⟨f,h1,h2⟩ | ⟨y,l,h1,h2⟩
   ·rw[h2]at af;exact MPost.err ⟨3,ix,mkS [],v⟩ (EQ.trans h1) a6 rfl af
   rw[h2]at af;exact MPost.good (EQ.trans h1) a6 (by rw[ce.out];rfl) af
 have ax:=hidX (zlo HM.out (fun y r' e=>fun e'=>h6 (by
  have:=(look_ok (zrk (r:=r') (show ¬ y.kind=7 by omega) (show ¬ y.kind=8 by omega))).1;rw[hK,e,this];exact e'.1)) (by omega) (by omega))
 have e6:(K==6)=false:=by simp[h6]
 have e4:(K==4)=false:=by simp[h4]
 have e1:(K==1)=false:=by simp[h1]
 clear hK h6 h4 h1;go_wp2_with (first | (go_at_call 21;refine G.out.mono ?_;rintro e w3 ⟨rfl,E,Z⟩;have b2:=zae (L:=[_,_,_,_]) ((E.block w1.heap.size aC (fun e=>by injection e;omega)).trans aq.out) (j:=2) rfl) | (go_at_call 147;refine (aD.out _ Z).mono ?_;rintro e X ⟨aX,⟨v,bR,bM⟩,bI⟩;obtain rfl:e=.returned (.agg #[.int .i64 v.kind,.int .i64 v.num,.string v.sym]):=bR;have bo:=E.rest.size;have O:=(aX.block w.heap.size (by omega) (fun e=>by injection e;omega)).trans ((E.block w.heap.size (by omega) (fun e=>by injection e;omega)).trans aG.out)) | (refine zac (by rfl) 95 (.tmp 2) (.tmp 89) (by rfl) w.heap.size (tmC ⟨1,0,mkS [],v⟩) (by rfl) (by rfl) _ 95 O (by rfl) zba (zca _) ?_;intro w6 aw ae) | fail);have al:=run_loadVar_mid (P:=Tryz.prog) w6 w.heap.size 0 95 (tmC ⟨1,0,mkS [],v⟩) _ (zal aw.out) Tryz.underlying95 rfl zba;(try go_frame);refine bodyPost_ret (v:=.agg (tmC ⟨1,0,mkS [],v⟩).toArray) (by simp[results,Tryz.results107,asAddr,al]) rfl ?_;have M6:=((M2.out.trans E).trans aX).turn ae.out (Nat.le_refl _);have ay:=bI.turned ae.out (by omega) (by omega);rw[ax.out]
 cases aM:onS (zaD s) pVal with
 | error f=>
  rw[aM]at ay;exact MPost.err ⟨1,0,mkS [],v⟩ rfl M6 rfl ay
 | ok q=>
  obtain ⟨v',l'⟩:=q;obtain rfl:=bM v' l' aM;rw[aM]at ay;exact MPost.good rfl M6 rfl ay
end Go.Proofs.YtjjjagepnnbebaaGreatDoor
namespace Go.Proofs.YtjjjagepnnbebaaGreatDoor
open Go.RowKit
theorem zmg{α:Type}{rd:List Wd->Px α}{w:World}{pb g:Nat}{W:List Wd}{c:Nat}{s:Ps}{R:List Value}{n:Nat}(U:MB w pb g W c s R)(hb:zdl (n:Int) 6 s=true)(v:α)(hv:∀ y l,onS (zb8 (n:Int) 6 s) rd=.ok (y,l)->y=v)(M:List α):n<6/\preL M (onS s (zbi rd (6 - n)))=preL (M ++ [v]) (onS (stS (onS (zb8 (n:Int) 6 s) rd)) (zbi rd (6 - (n+1)))):=by
 unfold zdl at hb;simp only[Bool.not_eq_true',Bool.or_eq_false_iff,decide_eq_false_iff_not]at hb;obtain ⟨h1,h2,I,hm⟩:=hb;have hS:zb8 (n:Int) 6 s=zaD s:=by unfold zb8;rw[if_neg (fun e=>e.elim h1 h2),if_neg I,if_neg hm]
 rw[hS]at hv ⊢;refine ⟨by omega,?_⟩
 cases s with
 | error f=>exact absurd rfl h1
 | ok l=>
  obtain ⟨x,r,rfl,hx,_⟩:=U.head
  cases hr:zaj (x :: r) with
  | error f=>exact absurd (zaY hr).1 h1
  | ok p=>
   obtain ⟨y,X⟩:=p;obtain ⟨rfl,_⟩:=za8 hr;rw[(look_ok hr).1]at h2;rw[(look_ok hr).2]at hv ⊢;have hp:pkW y≠41:=fun e=>h2 ((rel41 y hx).2 e);obtain ⟨m,G⟩:∃ m,6 - n=m+1:=⟨6 - (n+1),by omega⟩
   rw[G,show 6 - (n+1)=m by omega];simp only[onS]at hv ⊢
   cases E:rd (y :: r) with
   | error f=>
    rw[zg9 hr hp E];rfl
   | ok q=>
    obtain ⟨O,l1⟩:=q;rw[zhQ hr hp E,hv O l1 E];rfl
theorem zoh{α:Type}{rd:List Wd->Px α}(G:∀ l x r,zaj l=.ok (x,r)->pkW x=0->rd l=.error (3,x.pos)){w:World}{pb g:Nat}{W:List Wd}{c:Nat}{s:Ps}{R:List Value}{n:Nat}(U:MB w pb g W c s R)(hb:zdl (n:Int) 6 s=false)(hn:n<=6)(M:List α):(∃ f,preL M (onS s (zbi rd (6 - n)))=.error f/\onS (zb8 (n:Int) 6 s) (zai 41)=.error f)∨∃ x l,preL M (onS s (zbi rd (6 - n)))=.ok (M,l)/\onS (zb8 (n:Int) 6 s) (zai 41)=.ok (x,l):=by
 cases s with
 | error f=>exact .inl ⟨f,rfl,rfl⟩
 | ok l=>
  obtain ⟨x,r,rfl,hx,_⟩:=U.head
  cases hr:zaj (x :: r) with
  | error f=>
   refine .inl ⟨f,?_,?_⟩
   ·simp only[onS];rw[zjD hr];rfl
   ·unfold zb8;rw[if_pos (.inl (zaY hr).1),(zaY hr).2];rfl
  | ok p=>
   obtain ⟨y,O⟩:=p;obtain ⟨rfl,_⟩:=za8 hr;have h1:=zlw hx;unfold zb8;unfold zdl at hb;rw[(look_ok hr).1]at hb ⊢;rw[(look_ok hr).2];simp only[onS];by_cases h2:y.kind=2
   ·refine .inr ⟨y,O,?_,?_⟩
    ·rw[zg7 hr ((rel41 y hx).1 h2),zkZ]
    rw[if_pos (.inr h2)];simp only[zai,hr];rw[if_pos ((rel41 y hx).1 h2)]
   have hp:pkW y≠41:=fun e=>h2 ((rel41 y hx).2 e);rw[if_neg (fun e=>e.elim h1 h2)];by_cases I:y.kind=0
   ·have E:pkW y=0:=(zdU hx).2.2.2.2.2.1 I;refine .inl ⟨(3,y.pos),?_,?_⟩
    ·cases hk:6 - n with
     | zero=>rw[zes hr hp,if_pos E];rfl
     | succ m=>rw[zg9 hr hp (G _ _ _ hr E)];rfl
    rw[if_pos I];rfl
   have E:pkW y≠0:=fun e=>I ((zdU hx).2.2.2.2.2.2 e);simp[h1,h2,I]at hb;rw[if_neg I,if_pos hb,show 6 - n=0 by omega];refine .inl ⟨(4,y.pos),?_,rfl⟩;rw[zes hr hp,if_neg E];rfl
theorem zmd(l:List Wd)(x:Wd)(r:List Wd)(h:zaj l=.ok (x,r))(hx:pkW x=0):zaX l=.error (3,x.pos):=by
 unfold zaX;rw[h,zak,if_neg (by omega),if_neg (by omega),if_neg (by omega),if_neg (by omega)]
def phM(l:List Wd):Px (Bool × Bs):=match zaj l with
 | .error f=>.error f
 | .ok (x,r)=>if pkW x=97/\ptW x=notT then andP (za3 r) fun cl l1=>.ok ((true,cl),l1) else andP (za3 l) fun cl l1=>.ok ((false,cl),l1)
theorem zrD(l:List Wd):pPat l=andP (phM l) fun h l2=>andP (zbi zaX 6 l2) fun ts l3=>.ok (⟨h.1,mkS h.2,ts⟩,l3):=by
 unfold pPat phM
 cases hr:zaj l with
 | error f=>simp only[zai,hr];rfl
 | ok q=>
  obtain ⟨x,r⟩:=q;by_cases hp:pkW x=97
  ·have ht:zai 97 l=.ok (x,r):=by simp only[zai,hr,if_pos hp]
   rw[ht,zak];by_cases hn:ptW x=notT
   ·rw[if_pos hn];simp only;rw[if_pos ⟨hp,hn⟩]
    cases za3 r with
    | error f=>rfl
    | ok q=>rfl
   rw[if_neg hn];simp only;rw[if_neg (fun e=>hn e.2)];have E:za3 l=.ok (ptW x,r):=by simp only[za3,ht,if_neg hn]
   rw[E];rfl
  have ht:zai 97 l=.error (3,x.pos):=by simp only[zai,hr,if_neg hp]
  rw[ht];simp only;rw[if_neg (fun e=>hp e.1)];have E:za3 l=.error (3,x.pos):=by simp only[za3,ht]
  rw[E];rfl
def patM(l:List Wd):Px Pt:=andP (zai 40 l) fun _ l1=>pPat l1
theorem zr9{x:Wd}{r:List Wd}(hx:WdOk x)(h:zaj (x :: r)=.ok (x,r))(hk:x.kind=5)(ht:x.text=notT):phM (x :: r)=andP (za3 r) fun cl l1=>.ok ((true,cl),l1):=by
 simp only[phM,h];rw[if_pos ⟨(rel97 x hx).1 hk,(zf9 hx hk).trans ht⟩]
theorem zps{w:World}{pb g:Nat}{W:List Wd}{c:Nat}{s:Ps}{R:List Value}(E:MB w pb g W c s R)(h:∀ x r,s=.ok (x :: r)->¬ (x.kind=5/\x.text=notT)):onS s phM=andP (onS (zaD s) za3) fun cl l1=>.ok ((false,cl),l1):=by
 cases s with
 | error f=>rfl
 | ok l=>
  obtain ⟨x,r,rfl,hx,_⟩:=E.head
  cases hr:zaj (x :: r) with
  | error f=>
   rw[(zaY hr).2];simp only[onS,phM,hr];rfl
  | ok p=>
   obtain ⟨y,G⟩:=p;obtain ⟨rfl,_⟩:=za8 hr;rw[(look_ok hr).2];simp only[onS,phM,hr];rw[if_neg];rintro ⟨h1,h2⟩;have hk:=(rel97 y hx).2 h1;exact h y r rfl ⟨hk,(zf9 hx hk).symm.trans h2⟩
theorem zsp(s:Ps):onS s patM=andP (onS (stS (onS s (zai 40))) phM) fun h l2=>andP (zbi zaX 6 l2) fun ts l3=>.ok (⟨h.1,mkS h.2,ts⟩,l3):=by
 cases s with
 | error f=>rfl
 | ok l=>
  simp only[onS,patM]
  cases zai 40 l with
  | error f=>rfl
  | ok q=>exact zrD q.2
theorem zoQ{s s1:Ps}{hd:Bool × Bs}{E:Px Wd}{M:List Tm}{r:Px (Bool × Bs)}(he:onS s patM=andP r fun h l2=>andP (zbi zaX 6 l2) fun ts l3=>.ok (⟨h.1,mkS h.2,ts⟩,l3))(hs:s1=stS r)(hr:∀ y l,r=.ok (y,l)->y=hd)
  (hE:(∃ f,onS s1 (zbi zaX 6)=.error f/\E=.error f)∨∃ x l,onS s1 (zbi zaX 6)=.ok (M,l)/\E=.ok (x,l)) :
  (∃ f,onS s patM=.error f/\E=.error f)∨∃ x l,onS s patM=.ok (⟨hd.1,mkS hd.2,M⟩,l)/\E=.ok (x,l):=by
 subst hs;rw[he]
 cases G:r with
 | error f=>
  rw[G]at hE;rcases hE with ⟨I,h1,h2⟩ | ⟨x,l,h1,h2⟩
  ·simp only[stS,onS]at h1;injection h1 with h1;exact .inl ⟨f,rfl,by rw[h2,h1]⟩
  ·cases h1
 | ok q=>
  obtain ⟨O,l2⟩:=q;have e:=hr O l2 G;subst e;rw[G]at hE;simp only[stS,onS]at hE;rw[zak];rcases hE with ⟨I,h1,h2⟩ | ⟨x,l,h1,h2⟩
  ·exact .inl ⟨I,by rw[h1];rfl,h2⟩
  exact .inr ⟨x,l,by rw[h1];rfl,h2⟩
end Go.Proofs.YtjjjagepnnbebaaGreatDoor
