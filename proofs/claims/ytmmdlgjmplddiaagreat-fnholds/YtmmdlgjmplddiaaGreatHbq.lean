/-
  OUR OWN TEXT. Tk3, Tk4, Tk5, In2, Fr1, Cf1, Cf2, Fh2, Fh3, RowFh, one behind the other.
-/
import Derived.Test.YtmmdlgjmplddiaaGreatHbp
import Derived.Test.YtmmdlgjmplddiaaGreatProg
import Derived.RangeFuncFrom
import Derived.RangeFuncCalls
import Derived.OwnWalkIn
import Derived.OrdersHeld
import Derived.Deep.RegionHeld3
import Derived.RangeFuncNested
import Derived.Test.YtmmdlgjmplddiaaGreatHas
import Derived.Deep.OwnRows
import Derived.WalkKit
import Derived.ProofKit
import Derived.OpenShut
import Derived.ShutString
import Derived.ChangeOld
import Derived.Below
namespace Go.Proofs.YtmmdlgjmplddiaaGreat
open Go.RowKit Go.Maps
attribute [local go_sem ↓] Go.wp_at_zero Go.wp_at_succ
theorem zof {k:Int} (h0:0≤k) (h1:k<1000000):IntKind.i64.wrap (k+1)=k+1:=by
 rw [IntKind.wrap_i64]
 omega
theorem zki {α β:Type} (g:α→List β) {l:List α}{j:Nat}{x:α} (h:l[j]?=some x):(l.take (j+1)).flatMap g=(l.take j).flatMap g ++ g x:=by
 rw [List.take_add_one,h]
 simp
theorem zhE {α β:Type} (g:α→List β) (l:List α) (j:Nat):((l.take j).flatMap g).length≤(l.flatMap g).length:=by
 have h:l.flatMap g=(l.take j).flatMap g ++ (l.drop j).flatMap g:=by
  rw [← List.flatMap_append,List.take_append_drop]
 rw [h,List.length_append]
 omega
set_option maxRecDepth 100000 in
set_option maxHeartbeats 12800000 in
theorem zjJ (Z:SK) (J Jx:List (TkX Z.wE)→World→Prop) (hJ:∀ s W W',J s W→Below W.heap.size W W'→J s W') (c:Cx) (k:Nat) (hc:Z.X[k]?=some c) (hkm:k<Z.m) (T:List F) (p0 p1 p2:Option Addr) (pre:List (TkX Z.wE)) (W:World) (hSX:SX Z W) (hTK:TokX Z.wE p0 p1 p2 T) (hfit:∀ f∈(cnOf Z.fs c).facts,∀ t∈c.cp.tests,t.fits T f) (hJ0:J pre W) (hneg:c.cp.neg=false) (hat:c.cp.at_=T.length) (hT3:T.length<3) (N:Nat) (r:List (List F)) (gN:F→List (List F)) (hr:r=(cnOf Z.fs c).facts.flatMap gN) (hN:pre.length+r.length≤N)
  (hz:∀ f∈(cnOf Z.fs c).facts,c.cp.tests.all (zaI T f)=false→gN f=[])
  (HIH:∀ f∈(cnOf Z.fs c).facts,c.cp.tests.all (zaI T f)=true→∀ (pre':List (TkX Z.wE)) (W':World) (q0 q1 q2:Option Addr),SX Z W'→J pre' W'→pre'.length+(gN f).length≤N→TokX Z.wE q0 q1 q2 (T ++ [f])→Calls Tryz.prog 55 #[.int .i64 ((k:Int)+1),.agg #[.pointer q0,.pointer q1,.pointer q2],.pointer (some ⟨Z.pb,0,none⟩),.pointer (some ⟨Z.yb,0,none⟩),.pointer (some ⟨Z.sb,0,none⟩),.pointer (some ⟨Z.xb,0,none⟩)] W' (SPost Z J Jx pre' (gN f) W')) :
   Calls Tryz.prog 55 #[.int .i64 (k:Int),.agg #[.pointer p0,.pointer p1,.pointer p2],.pointer (some ⟨Z.pb,0,none⟩),.pointer (some ⟨Z.yb,0,none⟩),.pointer (some ⟨Z.sb,0,none⟩),.pointer (some ⟨Z.xb,0,none⟩)] W (SPost Z J Jx pre r W):=by
 obtain ⟨g,fa,fc,hca,hmem⟩:=Z.cond hc
 have hts:=Z.small c (List.mem_of_getElem? hc)
 have hfl:(cnOf Z.fs c).facts.length≤40:=Nat.le_trans (List.length_filter_le _ _) Z.f40
 have HM:=hidP hmem
 have HTK:=hidP hTK
 have HF:=hidP hfit
 have HI:=hidP HIH
 have HZ:=hidP hz
 have HRR:=hidP hr
 have HNN:=hidP hN
 have HJJ:=hidP hJ
 clear hmem hTK hfit HIH hz hr hN
 obtain ⟨fs,hfs⟩:∃ l,l=(cnOf Z.fs c).facts:=⟨_,rfl⟩
 rw [← hfs] at HM HF HI HZ HRR hfl
 clear hfs
 have hkn:((k:Int)==(Z.m:Int))=false:=by simp;omega
 have z0:(0:Int)≤(k:Int):=by omega
 have z1:(k:Int)<(Z.m:Int):=by omega
 have hk40:(k:Int)<1000000:=by have:=Z.hm;have:=(List.getElem?_eq_some_iff.1 hc).1;have:=Z.X6;omega
 go_enter Tryz.func55,Tryz.ntmps55
 go_upto_region 1 with fail
 refine zaj ?_
 intro w0 hW0 hq0
 obtain ⟨tb,htb⟩:∃ b,b=W.heap.size:=⟨_,rfl⟩
 rw [← htb] at hq0 ⊢
 have hcb:Z.cb<tb:=by
  have h1:=hSX.lk.size
  have h2:=Z.h2
  have h3:=Z.h4
  omega
 obtain ⟨t0,t1,t2⟩:=cells3P hq0
 have TB0:=hidP hq0
 have SX0:=hidP (hSX.bel hW0)
 obtain ⟨g0,_⟩:=cells2P SX0.out.pl
 rw [hca] at g0
 obtain ⟨⟨c0,c1,c2,c3⟩,_⟩:=HM.out w0 SX0.out.lk
 have J0:=hidP (hJ _ _ _ hJ0 hW0)
 have B0:=hidP hW0
 rw [hneg] at c0
 rw [hat] at c1
 have htl:tb<w0.heap.size:=zab hq0
 clear hW0 hq0 htb
 go_upto_region 4 with fail
 refine zaj ?_
 intro w2 hW2 hq2
 obtain ⟨db,hdb⟩:∃ b,b=w0.heap.size:=⟨_,rfl⟩
 rw [← hdb] at hq2 ⊢
 have hcd:Z.cb<db:=by omega
 obtain ⟨d0,d1,d2,d3⟩:=cells4P hq2
 have DB2:=hidP hq2
 have TB2:=hidP ((hW2.block _ (zab TB0.out)).trans TB0.out)
 have SX2:=hidP (SX0.out.bel hW2)
 have J2:=hidP (hJ _ _ _ J0.out hW2)
 have B2:=hidP (B0.out.trans (hW2.mono B0.out.size))
 obtain ⟨s0,s1⟩:=cells2P SX2.out.sd
 obtain ⟨_,_,m2,_,_⟩:=HM.out w2 SX2.out.lk
 clear hW2 hq2 hdb t0 t1 t2 c0 c1 c2 c3 g0 SX0 J0 B0 TB0
 go_wp2_with fail
 refine (zji k c.node _ _ _ fa fs.length fc w2 m2).mono ?_
 rintro e w3 ⟨rfl,hb3⟩
 have DB3:=hidP ((hb3.block _ (zab DB2.out)).trans DB2.out)
 have TB3:=hidP ((hb3.block _ (zab TB2.out)).trans TB2.out)
 have SX3:=hidP (SX2.out.bel hb3)
 have J3:=hidP (hJ _ _ _ J2.out hb3)
 have B3:=hidP (B2.out.trans (hb3.mono B2.out.size))
 clear hb3 m2 d0 d1 d2 d3 s0 s1 SX2 J2 B2 DB2 TB2
 go_wp2_with fail
 go_loopw [49] (fun iv wr=>∃ (j:Nat) (ys:List (TkX Z.wE)),iv=.int .i64 (j:Int)∧j≤fs.length∧ys.map tkT=(fs.take j).flatMap gN∧J (pre ++ ys) wr∧Kq Z.cb Z.w1.heap.size Z.M w3 wr) (fun iv _=>fs.length - (intOf iv).toNat)
 case atStart=>exact ⟨0,[],rfl,Nat.zero_le _,rfl,by simpa using J3.out,Kq.refl _ _ _ _⟩
 case round=>
  obtain ⟨j,ys,rfl,hjl,hys,hJr,hKr⟩:=hrel
  have HYS:=hidP hys
  have JR:=hidP hJr
  have KR:=hidP hKr
  have SXR:=hidP (SX3.out.kq hKr)
  have DBR:=hidP (hKr.box DB3.out (by omega) (by decide))
  have TBR:=hidP (hKr.box TB3.out (by omega) (by decide))
  clear hys hJr hKr J3
  by_cases hj:j<fs.length
  ·obtain ⟨f,hf⟩:∃ f,fs[j]?=some f:=⟨fs[j],by simp [hj]⟩
   have hfm:=List.mem_of_getElem? hf
   obtain ⟨_,m1,m2,m3,m4⟩:=HM.out wr SXR.out.lk
   obtain ⟨hb,rfl,fb,fo,hcell,hfac⟩:=m4 j f hf
   have HFC:=hidP hfac
   obtain ⟨d0,d1,d2,d3⟩:=cells4P DBR.out
   obtain ⟨u0,u1,u2⟩:=cells3P TBR.out
   have x0:=cell1P SXR.out.sr
   have y0:(0:Int)≤(j:Int):=by omega
   have y1:(j:Int)<(fs.length:Int):=by omega
   have HST:=hidP (zki gN hf)
   have HAG:=hidP (fun w' (h:Below wr.heap.size wr w')=>zd6 (.bool false) (.int .i64 (T.length:Int)) (.pointer (some ⟨c.node,0,none⟩)) (.pointer p0) (.pointer p1) (.pointer p2) (.pointer (some ⟨fb,fo,none⟩)) c.cp.tests c.ta c.tc T f w' (m1.below h) ((HTK.out.tok.below SXR.out.entry).below h) ((HFC.out.below SXR.out.entry).below h) (Nat.le_trans hts (by decide)) (HF.out f hfm))
   clear m1 m2 m3 m4 hfac
   cases hm:c.cp.tests.all (zaI T f)
   ·have HG0:=hidP (HZ.out f hfm hm)
    rw [hm] at HAG
    clear hm hf
    go_wp2_with fail
    refine wp_region_noPanic ?_
    refine wp_region_held_drew (S:=(fun w'=>w'.cell? ⟨db,0,none⟩=some (.bool false)∧w'.cell? ⟨db,1,none⟩=some (.int .i64 (T.length:Int))∧w'.cell? ⟨db,2,none⟩=some (.pointer (some ⟨c.node,0,none⟩))∧w'.cell? ⟨db,3,none⟩=some (.slice c.ta c.cp.tests.length c.tc)∧w'.cell? ⟨tb,0,none⟩=some (.pointer p0)∧w'.cell? ⟨tb,1,none⟩=some (.pointer p1)∧w'.cell? ⟨tb,2,none⟩=some (.pointer p2))) (by kernel_rfl) ?_ (fun hHeld=>?_)
    ·(try dsimp only)
     exact ⟨d0,d1,d2,d3,u0,u1,u2⟩
    refine tk 0 hHeld ?_
    (try simp only [pA,pZ,pS])
    refine tk 1 hHeld ?_
    (try simp only [pA,pZ,pS])
    refine tk 2 hHeld ?_
    (try simp only [pA,pZ,pS])
    refine wpAnyH_ready (rs:=[3]) (by kernel_rfl) (by simp) ?_
    refine AllReadyH.cons (List.getElem?_toArray.trans rfl) (fun K hK=>?_) AllReadyH.nil
    go_simp
    (go_at_call 59;refine (HAG.out _ (Below.refl _ _).drew).mono ?_;rintro e' w6 ⟨rfl,hb6⟩)
    (try go_wp2_with fail)
    refine hK.out _ _ ?hS2 (fun hHeld=>?_)
    case hS2=>((try dsimp only);exact ⟨zaa hb6 d0,zaa hb6 d1,zaa hb6 d2,zaa hb6 d3,zaa hb6 u0,zaa hb6 u1,zaa hb6 u2⟩)
    clear hK K
    (first | simp only [pA,pZ,pS] | simp only [pN] | skip)
    have B6:=hidP (show Below wr.heap.size wr w6 from (Below.refl _ _).drew.trans (hb6.mono (by simp)))
    clear hb6
    refine tk 4 hHeld ?_
    refine tn 5 hHeld ?_
    refine tn 6 hHeld ?_
    refine tn 7 hHeld ?_
    (try simp only [pA,pZ,pS])
    refine tn 8 hHeld ?_
    refine tn 9 hHeld ?_
    refine tn 10 hHeld ?_
    refine tn 11 hHeld ?_
    (try simp only [pA,pZ,pS])
    refine tn 12 hHeld ?_
    refine tn 13 hHeld ?_
    refine tn 14 hHeld ?_
    (try simp only [pA,pZ,pS])
    refine tk 15 hHeld ?_
    (try simp only [pA,pZ,pS])
    refine wpAnyH_done (by kernel_rfl) ?_ _
    refine NoPanic.normal ?_
    go_wp2_with fail
    go_roundw
    case rel=>exact ⟨j+1,ys,by go_num,by omega,by rw [HST.out,HG0.out,List.append_nil];exact HYS.out,hJ _ _ _ JR.out B6.out,KR.out.trans (Kq.of_below B6.out)⟩
    case measure=>(simp [intOf];omega)
   ·have HG1:=hidP (HI.out f hfm hm)
    rw [hm] at HAG
    have HLE:=hidP (show (pre ++ ys).length+(gN f).length≤N by have h1:=zhE gN fs (j+1);rw [HST.out,List.length_append] at h1;have h2:=congrArg List.length HYS.out;rw [List.length_map] at h2;have h3:=congrArg List.length HRR.out;have h4:=HNN.out;rw [List.length_append];omega)
    have hwrap:IntKind.i64.wrap ((k:Int)+1)=(k:Int)+1:=zof z0 hk40
    clear hm hf
    go_wp2_with fail
    refine wp_region_noPanic ?_
    refine wp_region_held_drew (S:=(fun _=>True)) (by kernel_rfl) ?_ (fun hHeld=>?_)
    ·(try dsimp only)
     all_goals trivial
    refine tk 2 hHeld ?_
    (try simp only [pA,pZ,pS])
    refine wpAnyH_ready (rs:=[0,1]) (by kernel_rfl) (by simp) (AllReadyH.cons (List.getElem?_toArray.trans rfl) (fun K hK=>?_) (AllReadyH.cons (List.getElem?_toArray.trans rfl) (fun K hK=>?_) AllReadyH.nil))
    ·go_simp
     refine hK.out _ _ trivial (fun hHeld=>?_)
     clear hK K
     (first | simp only [pA,pZ,pS] | simp only [pN] | skip)
     refine wpAnyH_ready (rs:=[1]) (by kernel_rfl) (by simp) (AllReadyH.cons (List.getElem?_toArray.trans rfl) (fun K hK=>?_) AllReadyH.nil)
     go_simp
     refine hK.out _ _ trivial (fun hHeld=>?_)
     clear hK K
     (first | simp only [pA,pZ,pS] | simp only [pN] | skip)
     refine wpAnyH_ready (rs:=[3]) (by kernel_rfl) (by simp) (AllReadyH.cons (List.getElem?_toArray.trans rfl) (fun K hK=>?_) AllReadyH.nil)
     go_simp
     (go_at_call 59;refine (HAG.out _ (Below.refl _ _).drew).mono ?_;rintro e' w6 ⟨rfl,hb6⟩)
     (try go_wp2_with fail)
     refine hK.out _ _ trivial (fun hHeld=>?_)
     clear hK K
     (first | simp only [pA,pZ,pS] | simp only [pN] | skip)
     have e0:=zaa hb6 d0
     have e1:=zaa hb6 d1
     have e2:=zaa hb6 d2
     have e3:=zaa hb6 d3
     have v0:=zaa hb6 u0
     have v1:=zaa hb6 u1
     have v2:=zaa hb6 u2
     have e8:=zaa hb6 x0
     have B6:=hidP (show Below wr.heap.size wr w6 from (Below.refl _ _).drew.trans (hb6.mono (by simp)))
     clear hb6
     refine tk 4 hHeld ?_
     (try simp only [pA,pZ,pS])
     refine tk 6 hHeld ?_
     (try simp only [pA,pZ,pS])
     refine tk 7 hHeld ?_
     (try simp only [pA,pZ,pS])
     refine tk 9 hHeld ?_
     (try simp only [pA,pZ,pS])
     refine tk 11 hHeld ?_
     (try simp only [pA,pZ,pS])
     refine wpAnyH_ready (rs:=[5,8,10]) (by kernel_rfl) (by simp) (AllReadyH.cons (List.getElem?_toArray.trans rfl) (fun K hK=>?_) (AllReadyH.cons (List.getElem?_toArray.trans rfl) (fun K hK=>?_) (AllReadyH.cons (List.getElem?_toArray.trans rfl) (fun K hK=>?_) AllReadyH.nil)))
     ·go_simp
      refine hK.out _ _ trivial (fun hHeld=>?_)
      clear hK K
      (first | simp only [pA,pZ,pS] | simp only [pN] | skip)
      refine wpAnyH_ready (rs:=[8,10]) (by kernel_rfl) (by simp) (AllReadyH.cons (List.getElem?_toArray.trans rfl) (fun K hK=>?_) (AllReadyH.cons (List.getElem?_toArray.trans rfl) (fun K hK=>?_) AllReadyH.nil))
      ·go_simp
       refine hK.out _ _ trivial (fun hHeld=>?_)
       clear hK K
       (first | simp only [pA,pZ,pS] | simp only [pN] | skip)
       refine wpAnyH_ready (rs:=[10]) (by kernel_rfl) (by simp) (AllReadyH.cons (List.getElem?_toArray.trans rfl) (fun K hK=>?_) AllReadyH.nil)
       go_simp
       refine hK.out _ _ trivial (fun hHeld=>?_)
       clear hK K
       (first | simp only [pA,pZ,pS] | simp only [pN] | skip)
       refine wpAnyH_ready (rs:=[12]) (by kernel_rfl) (by simp) (AllReadyH.cons (List.getElem?_toArray.trans rfl) (fun K hK=>?_) AllReadyH.nil)
       go_simp
       (go_at_call 60;refine (zaT p0 p1 p2 (some ⟨fb,fo,none⟩) T f Z.wE w6 HTK.out hT3 HFC.out).mono ?_;rintro e' w7 ⟨q0,q1,q2,rfl,HTQ,hb7⟩)
       (try go_wp2_with fail)
       refine hK.out _ _ trivial (fun hHeld=>?_)
       clear hK K
       (first | simp only [pA,pZ,pS] | simp only [pN] | skip)
       have B7:=hidP (B6.out.trans (hb7.mono B6.out.size))
       have e9:=zaa hb7 e8
       clear hb7
       refine wpAnyH_ready (rs:=[13]) (by kernel_rfl) (by simp) (AllReadyH.cons (List.getElem?_toArray.trans rfl) (fun K hK=>?_) AllReadyH.nil)
       go_simp
       (go_at_call 55;(try rw [hwrap]);refine (HG1.out (pre ++ ys) w7 q0 q1 q2 (SXR.out.bel B7.out) (HJJ.out _ _ _ JR.out B7.out) HLE.out HTQ.out).mono ?_;intro e' w8 hpo;obtain ⟨b,rfl,HB1,HB0⟩:=hpo.one;clear hpo)
       (try go_wp2_with fail)
       refine hK.out _ _ trivial (fun hHeld=>?_)
       clear hK K
       (first | simp only [pA,pZ,pS] | simp only [pN] | skip)
       refine tk 14 hHeld ?_
       (try simp only [pA,pZ,pS])
       refine tk 15 hHeld ?_
       (try simp only [pA,pZ,pS])
       refine wpAnyH_done (by kernel_rfl) ?_ _
       refine NoPanic.normal ?_
       clear hwrap HG1 HLE HAG HTQ hHeld e0 e1 e2 e3 v0 v1 v2 e8 e9 d0 d1 d2 d3 u0 u1 u2 x0 hcell hJ
       cases b
       ·have HBX:=hidP (HB0.out rfl)
        clear HB0 HB1
        simp only [Bool.not_false]
        go_wp2_with fail
        go_ret
        exact .inr ⟨rfl,HBX.out⟩
       ·obtain ⟨ys2,hl2,hj2,hk2⟩:=HB1.out rfl
        have HJ2:=hidP hj2
        have HL2:=hidP hl2
        have HK2:=hidP hk2
        clear hj2 hl2 hk2 HB1 HB0
        simp only [Bool.not_true]
        go_wp2_with fail
        go_roundw
        case rel=>exact ⟨j+1,ys ++ ys2,by go_num,by omega,by rw [HST.out,List.map_append,HYS.out,HL2.out],by rw [← List.append_assoc];exact HJ2.out,KR.out.trans ((Kq.of_below B7.out).trans HK2.out)⟩
        case measure=>(simp [intOf];omega)
      ·go_simp
       refine hK.out _ _ trivial (fun hHeld=>?_)
       clear hK K
       (first | simp only [pA,pZ,pS] | simp only [pN] | skip)
       refine wpAnyH_ready (rs:=[8]) (by kernel_rfl) (by simp) (AllReadyH.cons (List.getElem?_toArray.trans rfl) (fun K hK=>?_) AllReadyH.nil)
       go_simp
       refine hK.out _ _ trivial (fun hHeld=>?_)
       clear hK K
       (first | simp only [pA,pZ,pS] | simp only [pN] | skip)
       refine wpAnyH_ready (rs:=[12]) (by kernel_rfl) (by simp) (AllReadyH.cons (List.getElem?_toArray.trans rfl) (fun K hK=>?_) AllReadyH.nil)
       go_simp
       (go_at_call 60;refine (zaT p0 p1 p2 (some ⟨fb,fo,none⟩) T f Z.wE w6 HTK.out hT3 HFC.out).mono ?_;rintro e' w7 ⟨q0,q1,q2,rfl,HTQ,hb7⟩)
       (try go_wp2_with fail)
       refine hK.out _ _ trivial (fun hHeld=>?_)
       clear hK K
       (first | simp only [pA,pZ,pS] | simp only [pN] | skip)
       have B7:=hidP (B6.out.trans (hb7.mono B6.out.size))
       have e9:=zaa hb7 e8
       clear hb7
       refine wpAnyH_ready (rs:=[13]) (by kernel_rfl) (by simp) (AllReadyH.cons (List.getElem?_toArray.trans rfl) (fun K hK=>?_) AllReadyH.nil)
       go_simp
       (go_at_call 55;(try rw [hwrap]);refine (HG1.out (pre ++ ys) w7 q0 q1 q2 (SXR.out.bel B7.out) (HJJ.out _ _ _ JR.out B7.out) HLE.out HTQ.out).mono ?_;intro e' w8 hpo;obtain ⟨b,rfl,HB1,HB0⟩:=hpo.one;clear hpo)
       (try go_wp2_with fail)
       refine hK.out _ _ trivial (fun hHeld=>?_)
       clear hK K
       (first | simp only [pA,pZ,pS] | simp only [pN] | skip)
       refine tk 14 hHeld ?_
       (try simp only [pA,pZ,pS])
       refine tk 15 hHeld ?_
       (try simp only [pA,pZ,pS])
       refine wpAnyH_done (by kernel_rfl) ?_ _
       refine NoPanic.normal ?_
       clear hwrap HG1 HLE HAG HTQ hHeld e0 e1 e2 e3 v0 v1 v2 e8 e9 d0 d1 d2 d3 u0 u1 u2 x0 hcell hJ
       cases b
       ·have HBX:=hidP (HB0.out rfl)
        clear HB0 HB1
        simp only [Bool.not_false]
        go_wp2_with fail
        go_ret
        exact .inr ⟨rfl,HBX.out⟩
       ·obtain ⟨ys2,hl2,hj2,hk2⟩:=HB1.out rfl
        have HJ2:=hidP hj2
        have HL2:=hidP hl2
        have HK2:=hidP hk2
        clear hj2 hl2 hk2 HB1 HB0
        simp only [Bool.not_true]
        go_wp2_with fail
        go_roundw
        case rel=>exact ⟨j+1,ys ++ ys2,by go_num,by omega,by rw [HST.out,List.map_append,HYS.out,HL2.out],by rw [← List.append_assoc];exact HJ2.out,KR.out.trans ((Kq.of_below B7.out).trans HK2.out)⟩
        case measure=>(simp [intOf];omega)
     ·go_simp
      refine hK.out _ _ trivial (fun hHeld=>?_)
      clear hK K
      (first | simp only [pA,pZ,pS] | simp only [pN] | skip)
      refine wpAnyH_ready (rs:=[5,10]) (by kernel_rfl) (by simp) (AllReadyH.cons (List.getElem?_toArray.trans rfl) (fun K hK=>?_) (AllReadyH.cons (List.getElem?_toArray.trans rfl) (fun K hK=>?_) AllReadyH.nil))
      ·go_simp
       refine hK.out _ _ trivial (fun hHeld=>?_)
       clear hK K
       (first | simp only [pA,pZ,pS] | simp only [pN] | skip)
       refine wpAnyH_ready (rs:=[10]) (by kernel_rfl) (by simp) (AllReadyH.cons (List.getElem?_toArray.trans rfl) (fun K hK=>?_) AllReadyH.nil)
       go_simp
       refine hK.out _ _ trivial (fun hHeld=>?_)
       clear hK K
       (first | simp only [pA,pZ,pS] | simp only [pN] | skip)
       refine wpAnyH_ready (rs:=[12]) (by kernel_rfl) (by simp) (AllReadyH.cons (List.getElem?_toArray.trans rfl) (fun K hK=>?_) AllReadyH.nil)
       go_simp
       (go_at_call 60;refine (zaT p0 p1 p2 (some ⟨fb,fo,none⟩) T f Z.wE w6 HTK.out hT3 HFC.out).mono ?_;rintro e' w7 ⟨q0,q1,q2,rfl,HTQ,hb7⟩)
       (try go_wp2_with fail)
       refine hK.out _ _ trivial (fun hHeld=>?_)
       clear hK K
       (first | simp only [pA,pZ,pS] | simp only [pN] | skip)
       have B7:=hidP (B6.out.trans (hb7.mono B6.out.size))
       have e9:=zaa hb7 e8
       clear hb7
       refine wpAnyH_ready (rs:=[13]) (by kernel_rfl) (by simp) (AllReadyH.cons (List.getElem?_toArray.trans rfl) (fun K hK=>?_) AllReadyH.nil)
       go_simp
       (go_at_call 55;(try rw [hwrap]);refine (HG1.out (pre ++ ys) w7 q0 q1 q2 (SXR.out.bel B7.out) (HJJ.out _ _ _ JR.out B7.out) HLE.out HTQ.out).mono ?_;intro e' w8 hpo;obtain ⟨b,rfl,HB1,HB0⟩:=hpo.one;clear hpo)
       (try go_wp2_with fail)
       refine hK.out _ _ trivial (fun hHeld=>?_)
       clear hK K
       (first | simp only [pA,pZ,pS] | simp only [pN] | skip)
       refine tk 14 hHeld ?_
       (try simp only [pA,pZ,pS])
       refine tk 15 hHeld ?_
       (try simp only [pA,pZ,pS])
       refine wpAnyH_done (by kernel_rfl) ?_ _
       refine NoPanic.normal ?_
       clear hwrap HG1 HLE HAG HTQ hHeld e0 e1 e2 e3 v0 v1 v2 e8 e9 d0 d1 d2 d3 u0 u1 u2 x0 hcell hJ
       cases b
       ·have HBX:=hidP (HB0.out rfl)
        clear HB0 HB1
        simp only [Bool.not_false]
        go_wp2_with fail
        go_ret
        exact .inr ⟨rfl,HBX.out⟩
       ·obtain ⟨ys2,hl2,hj2,hk2⟩:=HB1.out rfl
        have HJ2:=hidP hj2
        have HL2:=hidP hl2
        have HK2:=hidP hk2
        clear hj2 hl2 hk2 HB1 HB0
        simp only [Bool.not_true]
        go_wp2_with fail
        go_roundw
        case rel=>exact ⟨j+1,ys ++ ys2,by go_num,by omega,by rw [HST.out,List.map_append,HYS.out,HL2.out],by rw [← List.append_assoc];exact HJ2.out,KR.out.trans ((Kq.of_below B7.out).trans HK2.out)⟩
        case measure=>(simp [intOf];omega)
      ·go_simp
       refine hK.out _ _ trivial (fun hHeld=>?_)
       clear hK K
       (first | simp only [pA,pZ,pS] | simp only [pN] | skip)
       refine wpAnyH_ready (rs:=[5,12]) (by kernel_rfl) (by simp) (AllReadyH.cons (List.getElem?_toArray.trans rfl) (fun K hK=>?_) (AllReadyH.cons (List.getElem?_toArray.trans rfl) (fun K hK=>?_) AllReadyH.nil))
       ·go_simp
        refine hK.out _ _ trivial (fun hHeld=>?_)
        clear hK K
        (first | simp only [pA,pZ,pS] | simp only [pN] | skip)
        refine wpAnyH_ready (rs:=[12]) (by kernel_rfl) (by simp) (AllReadyH.cons (List.getElem?_toArray.trans rfl) (fun K hK=>?_) AllReadyH.nil)
        go_simp
        (go_at_call 60;refine (zaT p0 p1 p2 (some ⟨fb,fo,none⟩) T f Z.wE w6 HTK.out hT3 HFC.out).mono ?_;rintro e' w7 ⟨q0,q1,q2,rfl,HTQ,hb7⟩)
        (try go_wp2_with fail)
        refine hK.out _ _ trivial (fun hHeld=>?_)
        clear hK K
        (first | simp only [pA,pZ,pS] | simp only [pN] | skip)
        have B7:=hidP (B6.out.trans (hb7.mono B6.out.size))
        have e9:=zaa hb7 e8
        clear hb7
        refine wpAnyH_ready (rs:=[13]) (by kernel_rfl) (by simp) (AllReadyH.cons (List.getElem?_toArray.trans rfl) (fun K hK=>?_) AllReadyH.nil)
        go_simp
        (go_at_call 55;(try rw [hwrap]);refine (HG1.out (pre ++ ys) w7 q0 q1 q2 (SXR.out.bel B7.out) (HJJ.out _ _ _ JR.out B7.out) HLE.out HTQ.out).mono ?_;intro e' w8 hpo;obtain ⟨b,rfl,HB1,HB0⟩:=hpo.one;clear hpo)
        (try go_wp2_with fail)
        refine hK.out _ _ trivial (fun hHeld=>?_)
        clear hK K
        (first | simp only [pA,pZ,pS] | simp only [pN] | skip)
        refine tk 14 hHeld ?_
        (try simp only [pA,pZ,pS])
        refine tk 15 hHeld ?_
        (try simp only [pA,pZ,pS])
        refine wpAnyH_done (by kernel_rfl) ?_ _
        refine NoPanic.normal ?_
        clear hwrap HG1 HLE HAG HTQ hHeld e0 e1 e2 e3 v0 v1 v2 e8 e9 d0 d1 d2 d3 u0 u1 u2 x0 hcell hJ
        cases b
        ·have HBX:=hidP (HB0.out rfl)
         clear HB0 HB1
         simp only [Bool.not_false]
         go_wp2_with fail
         go_ret
         exact .inr ⟨rfl,HBX.out⟩
        ·obtain ⟨ys2,hl2,hj2,hk2⟩:=HB1.out rfl
         have HJ2:=hidP hj2
         have HL2:=hidP hl2
         have HK2:=hidP hk2
         clear hj2 hl2 hk2 HB1 HB0
         simp only [Bool.not_true]
         go_wp2_with fail
         go_roundw
         case rel=>exact ⟨j+1,ys ++ ys2,by go_num,by omega,by rw [HST.out,List.map_append,HYS.out,HL2.out],by rw [← List.append_assoc];exact HJ2.out,KR.out.trans ((Kq.of_below B7.out).trans HK2.out)⟩
         case measure=>(simp [intOf];omega)
       ·go_simp
        (go_at_call 60;refine (zaT p0 p1 p2 (some ⟨fb,fo,none⟩) T f Z.wE w6 HTK.out hT3 HFC.out).mono ?_;rintro e' w7 ⟨q0,q1,q2,rfl,HTQ,hb7⟩)
        (try go_wp2_with fail)
        refine hK.out _ _ trivial (fun hHeld=>?_)
        clear hK K
        (first | simp only [pA,pZ,pS] | simp only [pN] | skip)
        have B7:=hidP (B6.out.trans (hb7.mono B6.out.size))
        have e9:=zaa hb7 e8
        clear hb7
        refine wpAnyH_ready (rs:=[5]) (by kernel_rfl) (by simp) (AllReadyH.cons (List.getElem?_toArray.trans rfl) (fun K hK=>?_) AllReadyH.nil)
        go_simp
        refine hK.out _ _ trivial (fun hHeld=>?_)
        clear hK K
        (first | simp only [pA,pZ,pS] | simp only [pN] | skip)
        refine wpAnyH_ready (rs:=[13]) (by kernel_rfl) (by simp) (AllReadyH.cons (List.getElem?_toArray.trans rfl) (fun K hK=>?_) AllReadyH.nil)
        go_simp
        (go_at_call 55;(try rw [hwrap]);refine (HG1.out (pre ++ ys) w7 q0 q1 q2 (SXR.out.bel B7.out) (HJJ.out _ _ _ JR.out B7.out) HLE.out HTQ.out).mono ?_;intro e' w8 hpo;obtain ⟨b,rfl,HB1,HB0⟩:=hpo.one;clear hpo)
        (try go_wp2_with fail)
        refine hK.out _ _ trivial (fun hHeld=>?_)
        clear hK K
        (first | simp only [pA,pZ,pS] | simp only [pN] | skip)
        refine tk 14 hHeld ?_
        (try simp only [pA,pZ,pS])
        refine tk 15 hHeld ?_
        (try simp only [pA,pZ,pS])
        refine wpAnyH_done (by kernel_rfl) ?_ _
        refine NoPanic.normal ?_
        clear hwrap HG1 HLE HAG HTQ hHeld e0 e1 e2 e3 v0 v1 v2 e8 e9 d0 d1 d2 d3 u0 u1 u2 x0 hcell hJ
        cases b
        ·have HBX:=hidP (HB0.out rfl)
         clear HB0 HB1
         simp only [Bool.not_false]
         go_wp2_with fail
         go_ret
         exact .inr ⟨rfl,HBX.out⟩
        ·obtain ⟨ys2,hl2,hj2,hk2⟩:=HB1.out rfl
         have HJ2:=hidP hj2
         have HL2:=hidP hl2
         have HK2:=hidP hk2
         clear hj2 hl2 hk2 HB1 HB0
         simp only [Bool.not_true]
         go_wp2_with fail
         go_roundw
         case rel=>exact ⟨j+1,ys ++ ys2,by go_num,by omega,by rw [HST.out,List.map_append,HYS.out,HL2.out],by rw [← List.append_assoc];exact HJ2.out,KR.out.trans ((Kq.of_below B7.out).trans HK2.out)⟩
         case measure=>(simp [intOf];omega)
     ·go_simp
      refine hK.out _ _ trivial (fun hHeld=>?_)
      clear hK K
      (first | simp only [pA,pZ,pS] | simp only [pN] | skip)
      refine wpAnyH_ready (rs:=[5,8]) (by kernel_rfl) (by simp) (AllReadyH.cons (List.getElem?_toArray.trans rfl) (fun K hK=>?_) (AllReadyH.cons (List.getElem?_toArray.trans rfl) (fun K hK=>?_) AllReadyH.nil))
      ·go_simp
       refine hK.out _ _ trivial (fun hHeld=>?_)
       clear hK K
       (first | simp only [pA,pZ,pS] | simp only [pN] | skip)
       refine wpAnyH_ready (rs:=[8]) (by kernel_rfl) (by simp) (AllReadyH.cons (List.getElem?_toArray.trans rfl) (fun K hK=>?_) AllReadyH.nil)
       go_simp
       refine hK.out _ _ trivial (fun hHeld=>?_)
       clear hK K
       (first | simp only [pA,pZ,pS] | simp only [pN] | skip)
       refine wpAnyH_ready (rs:=[12]) (by kernel_rfl) (by simp) (AllReadyH.cons (List.getElem?_toArray.trans rfl) (fun K hK=>?_) AllReadyH.nil)
       go_simp
       (go_at_call 60;refine (zaT p0 p1 p2 (some ⟨fb,fo,none⟩) T f Z.wE w6 HTK.out hT3 HFC.out).mono ?_;rintro e' w7 ⟨q0,q1,q2,rfl,HTQ,hb7⟩)
       (try go_wp2_with fail)
       refine hK.out _ _ trivial (fun hHeld=>?_)
       clear hK K
       (first | simp only [pA,pZ,pS] | simp only [pN] | skip)
       have B7:=hidP (B6.out.trans (hb7.mono B6.out.size))
       have e9:=zaa hb7 e8
       clear hb7
       refine wpAnyH_ready (rs:=[13]) (by kernel_rfl) (by simp) (AllReadyH.cons (List.getElem?_toArray.trans rfl) (fun K hK=>?_) AllReadyH.nil)
       go_simp
       (go_at_call 55;(try rw [hwrap]);refine (HG1.out (pre ++ ys) w7 q0 q1 q2 (SXR.out.bel B7.out) (HJJ.out _ _ _ JR.out B7.out) HLE.out HTQ.out).mono ?_;intro e' w8 hpo;obtain ⟨b,rfl,HB1,HB0⟩:=hpo.one;clear hpo)
       (try go_wp2_with fail)
       refine hK.out _ _ trivial (fun hHeld=>?_)
       clear hK K
       (first | simp only [pA,pZ,pS] | simp only [pN] | skip)
       refine tk 14 hHeld ?_
       (try simp only [pA,pZ,pS])
       refine tk 15 hHeld ?_
       (try simp only [pA,pZ,pS])
       refine wpAnyH_done (by kernel_rfl) ?_ _
       refine NoPanic.normal ?_
       clear hwrap HG1 HLE HAG HTQ hHeld e0 e1 e2 e3 v0 v1 v2 e8 e9 d0 d1 d2 d3 u0 u1 u2 x0 hcell hJ
       cases b
       ·have HBX:=hidP (HB0.out rfl)
        clear HB0 HB1
        simp only [Bool.not_false]
        go_wp2_with fail
        go_ret
        exact .inr ⟨rfl,HBX.out⟩
       ·obtain ⟨ys2,hl2,hj2,hk2⟩:=HB1.out rfl
        have HJ2:=hidP hj2
        have HL2:=hidP hl2
        have HK2:=hidP hk2
        clear hj2 hl2 hk2 HB1 HB0
        simp only [Bool.not_true]
        go_wp2_with fail
        go_roundw
        case rel=>exact ⟨j+1,ys ++ ys2,by go_num,by omega,by rw [HST.out,List.map_append,HYS.out,HL2.out],by rw [← List.append_assoc];exact HJ2.out,KR.out.trans ((Kq.of_below B7.out).trans HK2.out)⟩
        case measure=>(simp [intOf];omega)
      ·go_simp
       refine hK.out _ _ trivial (fun hHeld=>?_)
       clear hK K
       (first | simp only [pA,pZ,pS] | simp only [pN] | skip)
       refine wpAnyH_ready (rs:=[5,12]) (by kernel_rfl) (by simp) (AllReadyH.cons (List.getElem?_toArray.trans rfl) (fun K hK=>?_) (AllReadyH.cons (List.getElem?_toArray.trans rfl) (fun K hK=>?_) AllReadyH.nil))
       ·go_simp
        refine hK.out _ _ trivial (fun hHeld=>?_)
        clear hK K
        (first | simp only [pA,pZ,pS] | simp only [pN] | skip)
        refine wpAnyH_ready (rs:=[12]) (by kernel_rfl) (by simp) (AllReadyH.cons (List.getElem?_toArray.trans rfl) (fun K hK=>?_) AllReadyH.nil)
        go_simp
        (go_at_call 60;refine (zaT p0 p1 p2 (some ⟨fb,fo,none⟩) T f Z.wE w6 HTK.out hT3 HFC.out).mono ?_;rintro e' w7 ⟨q0,q1,q2,rfl,HTQ,hb7⟩)
        (try go_wp2_with fail)
        refine hK.out _ _ trivial (fun hHeld=>?_)
        clear hK K
        (first | simp only [pA,pZ,pS] | simp only [pN] | skip)
        have B7:=hidP (B6.out.trans (hb7.mono B6.out.size))
        have e9:=zaa hb7 e8
        clear hb7
        refine wpAnyH_ready (rs:=[13]) (by kernel_rfl) (by simp) (AllReadyH.cons (List.getElem?_toArray.trans rfl) (fun K hK=>?_) AllReadyH.nil)
        go_simp
        (go_at_call 55;(try rw [hwrap]);refine (HG1.out (pre ++ ys) w7 q0 q1 q2 (SXR.out.bel B7.out) (HJJ.out _ _ _ JR.out B7.out) HLE.out HTQ.out).mono ?_;intro e' w8 hpo;obtain ⟨b,rfl,HB1,HB0⟩:=hpo.one;clear hpo)
        (try go_wp2_with fail)
        refine hK.out _ _ trivial (fun hHeld=>?_)
        clear hK K
        (first | simp only [pA,pZ,pS] | simp only [pN] | skip)
        refine tk 14 hHeld ?_
        (try simp only [pA,pZ,pS])
        refine tk 15 hHeld ?_
        (try simp only [pA,pZ,pS])
        refine wpAnyH_done (by kernel_rfl) ?_ _
        refine NoPanic.normal ?_
        clear hwrap HG1 HLE HAG HTQ hHeld e0 e1 e2 e3 v0 v1 v2 e8 e9 d0 d1 d2 d3 u0 u1 u2 x0 hcell hJ
        cases b
        ·have HBX:=hidP (HB0.out rfl)
         clear HB0 HB1
         simp only [Bool.not_false]
         go_wp2_with fail
         go_ret
         exact .inr ⟨rfl,HBX.out⟩
        ·obtain ⟨ys2,hl2,hj2,hk2⟩:=HB1.out rfl
         have HJ2:=hidP hj2
         have HL2:=hidP hl2
         have HK2:=hidP hk2
         clear hj2 hl2 hk2 HB1 HB0
         simp only [Bool.not_true]
         go_wp2_with fail
         go_roundw
         case rel=>exact ⟨j+1,ys ++ ys2,by go_num,by omega,by rw [HST.out,List.map_append,HYS.out,HL2.out],by rw [← List.append_assoc];exact HJ2.out,KR.out.trans ((Kq.of_below B7.out).trans HK2.out)⟩
         case measure=>(simp [intOf];omega)
       ·go_simp
        (go_at_call 60;refine (zaT p0 p1 p2 (some ⟨fb,fo,none⟩) T f Z.wE w6 HTK.out hT3 HFC.out).mono ?_;rintro e' w7 ⟨q0,q1,q2,rfl,HTQ,hb7⟩)
        (try go_wp2_with fail)
        refine hK.out _ _ trivial (fun hHeld=>?_)
        clear hK K
        (first | simp only [pA,pZ,pS] | simp only [pN] | skip)
        have B7:=hidP (B6.out.trans (hb7.mono B6.out.size))
        have e9:=zaa hb7 e8
        clear hb7
        refine wpAnyH_ready (rs:=[5]) (by kernel_rfl) (by simp) (AllReadyH.cons (List.getElem?_toArray.trans rfl) (fun K hK=>?_) AllReadyH.nil)
        go_simp
        refine hK.out _ _ trivial (fun hHeld=>?_)
        clear hK K
        (first | simp only [pA,pZ,pS] | simp only [pN] | skip)
        refine wpAnyH_ready (rs:=[13]) (by kernel_rfl) (by simp) (AllReadyH.cons (List.getElem?_toArray.trans rfl) (fun K hK=>?_) AllReadyH.nil)
        go_simp
        (go_at_call 55;(try rw [hwrap]);refine (HG1.out (pre ++ ys) w7 q0 q1 q2 (SXR.out.bel B7.out) (HJJ.out _ _ _ JR.out B7.out) HLE.out HTQ.out).mono ?_;intro e' w8 hpo;obtain ⟨b,rfl,HB1,HB0⟩:=hpo.one;clear hpo)
        (try go_wp2_with fail)
        refine hK.out _ _ trivial (fun hHeld=>?_)
        clear hK K
        (first | simp only [pA,pZ,pS] | simp only [pN] | skip)
        refine tk 14 hHeld ?_
        (try simp only [pA,pZ,pS])
        refine tk 15 hHeld ?_
        (try simp only [pA,pZ,pS])
        refine wpAnyH_done (by kernel_rfl) ?_ _
        refine NoPanic.normal ?_
        clear hwrap HG1 HLE HAG HTQ hHeld e0 e1 e2 e3 v0 v1 v2 e8 e9 d0 d1 d2 d3 u0 u1 u2 x0 hcell hJ
        cases b
        ·have HBX:=hidP (HB0.out rfl)
         clear HB0 HB1
         simp only [Bool.not_false]
         go_wp2_with fail
         go_ret
         exact .inr ⟨rfl,HBX.out⟩
        ·obtain ⟨ys2,hl2,hj2,hk2⟩:=HB1.out rfl
         have HJ2:=hidP hj2
         have HL2:=hidP hl2
         have HK2:=hidP hk2
         clear hj2 hl2 hk2 HB1 HB0
         simp only [Bool.not_true]
         go_wp2_with fail
         go_roundw
         case rel=>exact ⟨j+1,ys ++ ys2,by go_num,by omega,by rw [HST.out,List.map_append,HYS.out,HL2.out],by rw [← List.append_assoc];exact HJ2.out,KR.out.trans ((Kq.of_below B7.out).trans HK2.out)⟩
         case measure=>(simp [intOf];omega)
    ·go_simp
     refine hK.out _ _ trivial (fun hHeld=>?_)
     clear hK K
     (first | simp only [pA,pZ,pS] | simp only [pN] | skip)
     refine wpAnyH_ready (rs:=[0]) (by kernel_rfl) (by simp) (AllReadyH.cons (List.getElem?_toArray.trans rfl) (fun K hK=>?_) AllReadyH.nil)
     go_simp
     refine hK.out _ _ trivial (fun hHeld=>?_)
     clear hK K
     (first | simp only [pA,pZ,pS] | simp only [pN] | skip)
     refine wpAnyH_ready (rs:=[3]) (by kernel_rfl) (by simp) (AllReadyH.cons (List.getElem?_toArray.trans rfl) (fun K hK=>?_) AllReadyH.nil)
     go_simp
     (go_at_call 59;refine (HAG.out _ (Below.refl _ _).drew).mono ?_;rintro e' w6 ⟨rfl,hb6⟩)
     (try go_wp2_with fail)
     refine hK.out _ _ trivial (fun hHeld=>?_)
     clear hK K
     (first | simp only [pA,pZ,pS] | simp only [pN] | skip)
     have e0:=zaa hb6 d0
     have e1:=zaa hb6 d1
     have e2:=zaa hb6 d2
     have e3:=zaa hb6 d3
     have v0:=zaa hb6 u0
     have v1:=zaa hb6 u1
     have v2:=zaa hb6 u2
     have e8:=zaa hb6 x0
     have B6:=hidP (show Below wr.heap.size wr w6 from (Below.refl _ _).drew.trans (hb6.mono (by simp)))
     clear hb6
     refine tk 4 hHeld ?_
     (try simp only [pA,pZ,pS])
     refine tk 6 hHeld ?_
     (try simp only [pA,pZ,pS])
     refine tk 7 hHeld ?_
     (try simp only [pA,pZ,pS])
     refine tk 9 hHeld ?_
     (try simp only [pA,pZ,pS])
     refine tk 11 hHeld ?_
     (try simp only [pA,pZ,pS])
     refine wpAnyH_ready (rs:=[5,8,10]) (by kernel_rfl) (by simp) (AllReadyH.cons (List.getElem?_toArray.trans rfl) (fun K hK=>?_) (AllReadyH.cons (List.getElem?_toArray.trans rfl) (fun K hK=>?_) (AllReadyH.cons (List.getElem?_toArray.trans rfl) (fun K hK=>?_) AllReadyH.nil)))
     ·go_simp
      refine hK.out _ _ trivial (fun hHeld=>?_)
      clear hK K
      (first | simp only [pA,pZ,pS] | simp only [pN] | skip)
      refine wpAnyH_ready (rs:=[8,10]) (by kernel_rfl) (by simp) (AllReadyH.cons (List.getElem?_toArray.trans rfl) (fun K hK=>?_) (AllReadyH.cons (List.getElem?_toArray.trans rfl) (fun K hK=>?_) AllReadyH.nil))
      ·go_simp
       refine hK.out _ _ trivial (fun hHeld=>?_)
       clear hK K
       (first | simp only [pA,pZ,pS] | simp only [pN] | skip)
       refine wpAnyH_ready (rs:=[10]) (by kernel_rfl) (by simp) (AllReadyH.cons (List.getElem?_toArray.trans rfl) (fun K hK=>?_) AllReadyH.nil)
       go_simp
       refine hK.out _ _ trivial (fun hHeld=>?_)
       clear hK K
       (first | simp only [pA,pZ,pS] | simp only [pN] | skip)
       refine wpAnyH_ready (rs:=[12]) (by kernel_rfl) (by simp) (AllReadyH.cons (List.getElem?_toArray.trans rfl) (fun K hK=>?_) AllReadyH.nil)
       go_simp
       (go_at_call 60;refine (zaT p0 p1 p2 (some ⟨fb,fo,none⟩) T f Z.wE w6 HTK.out hT3 HFC.out).mono ?_;rintro e' w7 ⟨q0,q1,q2,rfl,HTQ,hb7⟩)
       (try go_wp2_with fail)
       refine hK.out _ _ trivial (fun hHeld=>?_)
       clear hK K
       (first | simp only [pA,pZ,pS] | simp only [pN] | skip)
       have B7:=hidP (B6.out.trans (hb7.mono B6.out.size))
       have e9:=zaa hb7 e8
       clear hb7
       refine wpAnyH_ready (rs:=[13]) (by kernel_rfl) (by simp) (AllReadyH.cons (List.getElem?_toArray.trans rfl) (fun K hK=>?_) AllReadyH.nil)
       go_simp
       (go_at_call 55;(try rw [hwrap]);refine (HG1.out (pre ++ ys) w7 q0 q1 q2 (SXR.out.bel B7.out) (HJJ.out _ _ _ JR.out B7.out) HLE.out HTQ.out).mono ?_;intro e' w8 hpo;obtain ⟨b,rfl,HB1,HB0⟩:=hpo.one;clear hpo)
       (try go_wp2_with fail)
       refine hK.out _ _ trivial (fun hHeld=>?_)
       clear hK K
       (first | simp only [pA,pZ,pS] | simp only [pN] | skip)
       refine tk 14 hHeld ?_
       (try simp only [pA,pZ,pS])
       refine tk 15 hHeld ?_
       (try simp only [pA,pZ,pS])
       refine wpAnyH_done (by kernel_rfl) ?_ _
       refine NoPanic.normal ?_
       clear hwrap HG1 HLE HAG HTQ hHeld e0 e1 e2 e3 v0 v1 v2 e8 e9 d0 d1 d2 d3 u0 u1 u2 x0 hcell hJ
       cases b
       ·have HBX:=hidP (HB0.out rfl)
        clear HB0 HB1
        simp only [Bool.not_false]
        go_wp2_with fail
        go_ret
        exact .inr ⟨rfl,HBX.out⟩
       ·obtain ⟨ys2,hl2,hj2,hk2⟩:=HB1.out rfl
        have HJ2:=hidP hj2
        have HL2:=hidP hl2
        have HK2:=hidP hk2
        clear hj2 hl2 hk2 HB1 HB0
        simp only [Bool.not_true]
        go_wp2_with fail
        go_roundw
        case rel=>exact ⟨j+1,ys ++ ys2,by go_num,by omega,by rw [HST.out,List.map_append,HYS.out,HL2.out],by rw [← List.append_assoc];exact HJ2.out,KR.out.trans ((Kq.of_below B7.out).trans HK2.out)⟩
        case measure=>(simp [intOf];omega)
      ·go_simp
       refine hK.out _ _ trivial (fun hHeld=>?_)
       clear hK K
       (first | simp only [pA,pZ,pS] | simp only [pN] | skip)
       refine wpAnyH_ready (rs:=[8]) (by kernel_rfl) (by simp) (AllReadyH.cons (List.getElem?_toArray.trans rfl) (fun K hK=>?_) AllReadyH.nil)
       go_simp
       refine hK.out _ _ trivial (fun hHeld=>?_)
       clear hK K
       (first | simp only [pA,pZ,pS] | simp only [pN] | skip)
       refine wpAnyH_ready (rs:=[12]) (by kernel_rfl) (by simp) (AllReadyH.cons (List.getElem?_toArray.trans rfl) (fun K hK=>?_) AllReadyH.nil)
       go_simp
       (go_at_call 60;refine (zaT p0 p1 p2 (some ⟨fb,fo,none⟩) T f Z.wE w6 HTK.out hT3 HFC.out).mono ?_;rintro e' w7 ⟨q0,q1,q2,rfl,HTQ,hb7⟩)
       (try go_wp2_with fail)
       refine hK.out _ _ trivial (fun hHeld=>?_)
       clear hK K
       (first | simp only [pA,pZ,pS] | simp only [pN] | skip)
       have B7:=hidP (B6.out.trans (hb7.mono B6.out.size))
       have e9:=zaa hb7 e8
       clear hb7
       refine wpAnyH_ready (rs:=[13]) (by kernel_rfl) (by simp) (AllReadyH.cons (List.getElem?_toArray.trans rfl) (fun K hK=>?_) AllReadyH.nil)
       go_simp
       (go_at_call 55;(try rw [hwrap]);refine (HG1.out (pre ++ ys) w7 q0 q1 q2 (SXR.out.bel B7.out) (HJJ.out _ _ _ JR.out B7.out) HLE.out HTQ.out).mono ?_;intro e' w8 hpo;obtain ⟨b,rfl,HB1,HB0⟩:=hpo.one;clear hpo)
       (try go_wp2_with fail)
       refine hK.out _ _ trivial (fun hHeld=>?_)
       clear hK K
       (first | simp only [pA,pZ,pS] | simp only [pN] | skip)
       refine tk 14 hHeld ?_
       (try simp only [pA,pZ,pS])
       refine tk 15 hHeld ?_
       (try simp only [pA,pZ,pS])
       refine wpAnyH_done (by kernel_rfl) ?_ _
       refine NoPanic.normal ?_
       clear hwrap HG1 HLE HAG HTQ hHeld e0 e1 e2 e3 v0 v1 v2 e8 e9 d0 d1 d2 d3 u0 u1 u2 x0 hcell hJ
       cases b
       ·have HBX:=hidP (HB0.out rfl)
        clear HB0 HB1
        simp only [Bool.not_false]
        go_wp2_with fail
        go_ret
        exact .inr ⟨rfl,HBX.out⟩
       ·obtain ⟨ys2,hl2,hj2,hk2⟩:=HB1.out rfl
        have HJ2:=hidP hj2
        have HL2:=hidP hl2
        have HK2:=hidP hk2
        clear hj2 hl2 hk2 HB1 HB0
        simp only [Bool.not_true]
        go_wp2_with fail
        go_roundw
        case rel=>exact ⟨j+1,ys ++ ys2,by go_num,by omega,by rw [HST.out,List.map_append,HYS.out,HL2.out],by rw [← List.append_assoc];exact HJ2.out,KR.out.trans ((Kq.of_below B7.out).trans HK2.out)⟩
        case measure=>(simp [intOf];omega)
     ·go_simp
      refine hK.out _ _ trivial (fun hHeld=>?_)
      clear hK K
      (first | simp only [pA,pZ,pS] | simp only [pN] | skip)
      refine wpAnyH_ready (rs:=[5,10]) (by kernel_rfl) (by simp) (AllReadyH.cons (List.getElem?_toArray.trans rfl) (fun K hK=>?_) (AllReadyH.cons (List.getElem?_toArray.trans rfl) (fun K hK=>?_) AllReadyH.nil))
      ·go_simp
       refine hK.out _ _ trivial (fun hHeld=>?_)
       clear hK K
       (first | simp only [pA,pZ,pS] | simp only [pN] | skip)
       refine wpAnyH_ready (rs:=[10]) (by kernel_rfl) (by simp) (AllReadyH.cons (List.getElem?_toArray.trans rfl) (fun K hK=>?_) AllReadyH.nil)
       go_simp
       refine hK.out _ _ trivial (fun hHeld=>?_)
       clear hK K
       (first | simp only [pA,pZ,pS] | simp only [pN] | skip)
       refine wpAnyH_ready (rs:=[12]) (by kernel_rfl) (by simp) (AllReadyH.cons (List.getElem?_toArray.trans rfl) (fun K hK=>?_) AllReadyH.nil)
       go_simp
       (go_at_call 60;refine (zaT p0 p1 p2 (some ⟨fb,fo,none⟩) T f Z.wE w6 HTK.out hT3 HFC.out).mono ?_;rintro e' w7 ⟨q0,q1,q2,rfl,HTQ,hb7⟩)
       (try go_wp2_with fail)
       refine hK.out _ _ trivial (fun hHeld=>?_)
       clear hK K
       (first | simp only [pA,pZ,pS] | simp only [pN] | skip)
       have B7:=hidP (B6.out.trans (hb7.mono B6.out.size))
       have e9:=zaa hb7 e8
       clear hb7
       refine wpAnyH_ready (rs:=[13]) (by kernel_rfl) (by simp) (AllReadyH.cons (List.getElem?_toArray.trans rfl) (fun K hK=>?_) AllReadyH.nil)
       go_simp
       (go_at_call 55;(try rw [hwrap]);refine (HG1.out (pre ++ ys) w7 q0 q1 q2 (SXR.out.bel B7.out) (HJJ.out _ _ _ JR.out B7.out) HLE.out HTQ.out).mono ?_;intro e' w8 hpo;obtain ⟨b,rfl,HB1,HB0⟩:=hpo.one;clear hpo)
       (try go_wp2_with fail)
       refine hK.out _ _ trivial (fun hHeld=>?_)
       clear hK K
       (first | simp only [pA,pZ,pS] | simp only [pN] | skip)
       refine tk 14 hHeld ?_
       (try simp only [pA,pZ,pS])
       refine tk 15 hHeld ?_
       (try simp only [pA,pZ,pS])
       refine wpAnyH_done (by kernel_rfl) ?_ _
       refine NoPanic.normal ?_
       clear hwrap HG1 HLE HAG HTQ hHeld e0 e1 e2 e3 v0 v1 v2 e8 e9 d0 d1 d2 d3 u0 u1 u2 x0 hcell hJ
       cases b
       ·have HBX:=hidP (HB0.out rfl)
        clear HB0 HB1
        simp only [Bool.not_false]
        go_wp2_with fail
        go_ret
        exact .inr ⟨rfl,HBX.out⟩
       ·obtain ⟨ys2,hl2,hj2,hk2⟩:=HB1.out rfl
        have HJ2:=hidP hj2
        have HL2:=hidP hl2
        have HK2:=hidP hk2
        clear hj2 hl2 hk2 HB1 HB0
        simp only [Bool.not_true]
        go_wp2_with fail
        go_roundw
        case rel=>exact ⟨j+1,ys ++ ys2,by go_num,by omega,by rw [HST.out,List.map_append,HYS.out,HL2.out],by rw [← List.append_assoc];exact HJ2.out,KR.out.trans ((Kq.of_below B7.out).trans HK2.out)⟩
        case measure=>(simp [intOf];omega)
      ·go_simp
       refine hK.out _ _ trivial (fun hHeld=>?_)
       clear hK K
       (first | simp only [pA,pZ,pS] | simp only [pN] | skip)
       refine wpAnyH_ready (rs:=[5,12]) (by kernel_rfl) (by simp) (AllReadyH.cons (List.getElem?_toArray.trans rfl) (fun K hK=>?_) (AllReadyH.cons (List.getElem?_toArray.trans rfl) (fun K hK=>?_) AllReadyH.nil))
       ·go_simp
        refine hK.out _ _ trivial (fun hHeld=>?_)
        clear hK K
        (first | simp only [pA,pZ,pS] | simp only [pN] | skip)
        refine wpAnyH_ready (rs:=[12]) (by kernel_rfl) (by simp) (AllReadyH.cons (List.getElem?_toArray.trans rfl) (fun K hK=>?_) AllReadyH.nil)
        go_simp
        (go_at_call 60;refine (zaT p0 p1 p2 (some ⟨fb,fo,none⟩) T f Z.wE w6 HTK.out hT3 HFC.out).mono ?_;rintro e' w7 ⟨q0,q1,q2,rfl,HTQ,hb7⟩)
        (try go_wp2_with fail)
        refine hK.out _ _ trivial (fun hHeld=>?_)
        clear hK K
        (first | simp only [pA,pZ,pS] | simp only [pN] | skip)
        have B7:=hidP (B6.out.trans (hb7.mono B6.out.size))
        have e9:=zaa hb7 e8
        clear hb7
        refine wpAnyH_ready (rs:=[13]) (by kernel_rfl) (by simp) (AllReadyH.cons (List.getElem?_toArray.trans rfl) (fun K hK=>?_) AllReadyH.nil)
        go_simp
        (go_at_call 55;(try rw [hwrap]);refine (HG1.out (pre ++ ys) w7 q0 q1 q2 (SXR.out.bel B7.out) (HJJ.out _ _ _ JR.out B7.out) HLE.out HTQ.out).mono ?_;intro e' w8 hpo;obtain ⟨b,rfl,HB1,HB0⟩:=hpo.one;clear hpo)
        (try go_wp2_with fail)
        refine hK.out _ _ trivial (fun hHeld=>?_)
        clear hK K
        (first | simp only [pA,pZ,pS] | simp only [pN] | skip)
        refine tk 14 hHeld ?_
        (try simp only [pA,pZ,pS])
        refine tk 15 hHeld ?_
        (try simp only [pA,pZ,pS])
        refine wpAnyH_done (by kernel_rfl) ?_ _
        refine NoPanic.normal ?_
        clear hwrap HG1 HLE HAG HTQ hHeld e0 e1 e2 e3 v0 v1 v2 e8 e9 d0 d1 d2 d3 u0 u1 u2 x0 hcell hJ
        cases b
        ·have HBX:=hidP (HB0.out rfl)
         clear HB0 HB1
         simp only [Bool.not_false]
         go_wp2_with fail
         go_ret
         exact .inr ⟨rfl,HBX.out⟩
        ·obtain ⟨ys2,hl2,hj2,hk2⟩:=HB1.out rfl
         have HJ2:=hidP hj2
         have HL2:=hidP hl2
         have HK2:=hidP hk2
         clear hj2 hl2 hk2 HB1 HB0
         simp only [Bool.not_true]
         go_wp2_with fail
         go_roundw
         case rel=>exact ⟨j+1,ys ++ ys2,by go_num,by omega,by rw [HST.out,List.map_append,HYS.out,HL2.out],by rw [← List.append_assoc];exact HJ2.out,KR.out.trans ((Kq.of_below B7.out).trans HK2.out)⟩
         case measure=>(simp [intOf];omega)
       ·go_simp
        (go_at_call 60;refine (zaT p0 p1 p2 (some ⟨fb,fo,none⟩) T f Z.wE w6 HTK.out hT3 HFC.out).mono ?_;rintro e' w7 ⟨q0,q1,q2,rfl,HTQ,hb7⟩)
        (try go_wp2_with fail)
        refine hK.out _ _ trivial (fun hHeld=>?_)
        clear hK K
        (first | simp only [pA,pZ,pS] | simp only [pN] | skip)
        have B7:=hidP (B6.out.trans (hb7.mono B6.out.size))
        have e9:=zaa hb7 e8
        clear hb7
        refine wpAnyH_ready (rs:=[5]) (by kernel_rfl) (by simp) (AllReadyH.cons (List.getElem?_toArray.trans rfl) (fun K hK=>?_) AllReadyH.nil)
        go_simp
        refine hK.out _ _ trivial (fun hHeld=>?_)
        clear hK K
        (first | simp only [pA,pZ,pS] | simp only [pN] | skip)
        refine wpAnyH_ready (rs:=[13]) (by kernel_rfl) (by simp) (AllReadyH.cons (List.getElem?_toArray.trans rfl) (fun K hK=>?_) AllReadyH.nil)
        go_simp
        (go_at_call 55;(try rw [hwrap]);refine (HG1.out (pre ++ ys) w7 q0 q1 q2 (SXR.out.bel B7.out) (HJJ.out _ _ _ JR.out B7.out) HLE.out HTQ.out).mono ?_;intro e' w8 hpo;obtain ⟨b,rfl,HB1,HB0⟩:=hpo.one;clear hpo)
        (try go_wp2_with fail)
        refine hK.out _ _ trivial (fun hHeld=>?_)
        clear hK K
        (first | simp only [pA,pZ,pS] | simp only [pN] | skip)
        refine tk 14 hHeld ?_
        (try simp only [pA,pZ,pS])
        refine tk 15 hHeld ?_
        (try simp only [pA,pZ,pS])
        refine wpAnyH_done (by kernel_rfl) ?_ _
        refine NoPanic.normal ?_
        clear hwrap HG1 HLE HAG HTQ hHeld e0 e1 e2 e3 v0 v1 v2 e8 e9 d0 d1 d2 d3 u0 u1 u2 x0 hcell hJ
        cases b
        ·have HBX:=hidP (HB0.out rfl)
         clear HB0 HB1
         simp only [Bool.not_false]
         go_wp2_with fail
         go_ret
         exact .inr ⟨rfl,HBX.out⟩
        ·obtain ⟨ys2,hl2,hj2,hk2⟩:=HB1.out rfl
         have HJ2:=hidP hj2
         have HL2:=hidP hl2
         have HK2:=hidP hk2
         clear hj2 hl2 hk2 HB1 HB0
         simp only [Bool.not_true]
         go_wp2_with fail
         go_roundw
         case rel=>exact ⟨j+1,ys ++ ys2,by go_num,by omega,by rw [HST.out,List.map_append,HYS.out,HL2.out],by rw [← List.append_assoc];exact HJ2.out,KR.out.trans ((Kq.of_below B7.out).trans HK2.out)⟩
         case measure=>(simp [intOf];omega)
     ·go_simp
      refine hK.out _ _ trivial (fun hHeld=>?_)
      clear hK K
      (first | simp only [pA,pZ,pS] | simp only [pN] | skip)
      refine wpAnyH_ready (rs:=[5,8]) (by kernel_rfl) (by simp) (AllReadyH.cons (List.getElem?_toArray.trans rfl) (fun K hK=>?_) (AllReadyH.cons (List.getElem?_toArray.trans rfl) (fun K hK=>?_) AllReadyH.nil))
      ·go_simp
       refine hK.out _ _ trivial (fun hHeld=>?_)
       clear hK K
       (first | simp only [pA,pZ,pS] | simp only [pN] | skip)
       refine wpAnyH_ready (rs:=[8]) (by kernel_rfl) (by simp) (AllReadyH.cons (List.getElem?_toArray.trans rfl) (fun K hK=>?_) AllReadyH.nil)
       go_simp
       refine hK.out _ _ trivial (fun hHeld=>?_)
       clear hK K
       (first | simp only [pA,pZ,pS] | simp only [pN] | skip)
       refine wpAnyH_ready (rs:=[12]) (by kernel_rfl) (by simp) (AllReadyH.cons (List.getElem?_toArray.trans rfl) (fun K hK=>?_) AllReadyH.nil)
       go_simp
       (go_at_call 60;refine (zaT p0 p1 p2 (some ⟨fb,fo,none⟩) T f Z.wE w6 HTK.out hT3 HFC.out).mono ?_;rintro e' w7 ⟨q0,q1,q2,rfl,HTQ,hb7⟩)
       (try go_wp2_with fail)
       refine hK.out _ _ trivial (fun hHeld=>?_)
       clear hK K
       (first | simp only [pA,pZ,pS] | simp only [pN] | skip)
       have B7:=hidP (B6.out.trans (hb7.mono B6.out.size))
       have e9:=zaa hb7 e8
       clear hb7
       refine wpAnyH_ready (rs:=[13]) (by kernel_rfl) (by simp) (AllReadyH.cons (List.getElem?_toArray.trans rfl) (fun K hK=>?_) AllReadyH.nil)
       go_simp
       (go_at_call 55;(try rw [hwrap]);refine (HG1.out (pre ++ ys) w7 q0 q1 q2 (SXR.out.bel B7.out) (HJJ.out _ _ _ JR.out B7.out) HLE.out HTQ.out).mono ?_;intro e' w8 hpo;obtain ⟨b,rfl,HB1,HB0⟩:=hpo.one;clear hpo)
       (try go_wp2_with fail)
       refine hK.out _ _ trivial (fun hHeld=>?_)
       clear hK K
       (first | simp only [pA,pZ,pS] | simp only [pN] | skip)
       refine tk 14 hHeld ?_
       (try simp only [pA,pZ,pS])
       refine tk 15 hHeld ?_
       (try simp only [pA,pZ,pS])
       refine wpAnyH_done (by kernel_rfl) ?_ _
       refine NoPanic.normal ?_
       clear hwrap HG1 HLE HAG HTQ hHeld e0 e1 e2 e3 v0 v1 v2 e8 e9 d0 d1 d2 d3 u0 u1 u2 x0 hcell hJ
       cases b
       ·have HBX:=hidP (HB0.out rfl)
        clear HB0 HB1
        simp only [Bool.not_false]
        go_wp2_with fail
        go_ret
        exact .inr ⟨rfl,HBX.out⟩
       ·obtain ⟨ys2,hl2,hj2,hk2⟩:=HB1.out rfl
        have HJ2:=hidP hj2
        have HL2:=hidP hl2
        have HK2:=hidP hk2
        clear hj2 hl2 hk2 HB1 HB0
        simp only [Bool.not_true]
        go_wp2_with fail
        go_roundw
        case rel=>exact ⟨j+1,ys ++ ys2,by go_num,by omega,by rw [HST.out,List.map_append,HYS.out,HL2.out],by rw [← List.append_assoc];exact HJ2.out,KR.out.trans ((Kq.of_below B7.out).trans HK2.out)⟩
        case measure=>(simp [intOf];omega)
      ·go_simp
       refine hK.out _ _ trivial (fun hHeld=>?_)
       clear hK K
       (first | simp only [pA,pZ,pS] | simp only [pN] | skip)
       refine wpAnyH_ready (rs:=[5,12]) (by kernel_rfl) (by simp) (AllReadyH.cons (List.getElem?_toArray.trans rfl) (fun K hK=>?_) (AllReadyH.cons (List.getElem?_toArray.trans rfl) (fun K hK=>?_) AllReadyH.nil))
       ·go_simp
        refine hK.out _ _ trivial (fun hHeld=>?_)
        clear hK K
        (first | simp only [pA,pZ,pS] | simp only [pN] | skip)
        refine wpAnyH_ready (rs:=[12]) (by kernel_rfl) (by simp) (AllReadyH.cons (List.getElem?_toArray.trans rfl) (fun K hK=>?_) AllReadyH.nil)
        go_simp
        (go_at_call 60;refine (zaT p0 p1 p2 (some ⟨fb,fo,none⟩) T f Z.wE w6 HTK.out hT3 HFC.out).mono ?_;rintro e' w7 ⟨q0,q1,q2,rfl,HTQ,hb7⟩)
        (try go_wp2_with fail)
        refine hK.out _ _ trivial (fun hHeld=>?_)
        clear hK K
        (first | simp only [pA,pZ,pS] | simp only [pN] | skip)
        have B7:=hidP (B6.out.trans (hb7.mono B6.out.size))
        have e9:=zaa hb7 e8
        clear hb7
        refine wpAnyH_ready (rs:=[13]) (by kernel_rfl) (by simp) (AllReadyH.cons (List.getElem?_toArray.trans rfl) (fun K hK=>?_) AllReadyH.nil)
        go_simp
        (go_at_call 55;(try rw [hwrap]);refine (HG1.out (pre ++ ys) w7 q0 q1 q2 (SXR.out.bel B7.out) (HJJ.out _ _ _ JR.out B7.out) HLE.out HTQ.out).mono ?_;intro e' w8 hpo;obtain ⟨b,rfl,HB1,HB0⟩:=hpo.one;clear hpo)
        (try go_wp2_with fail)
        refine hK.out _ _ trivial (fun hHeld=>?_)
        clear hK K
        (first | simp only [pA,pZ,pS] | simp only [pN] | skip)
        refine tk 14 hHeld ?_
        (try simp only [pA,pZ,pS])
        refine tk 15 hHeld ?_
        (try simp only [pA,pZ,pS])
        refine wpAnyH_done (by kernel_rfl) ?_ _
        refine NoPanic.normal ?_
        clear hwrap HG1 HLE HAG HTQ hHeld e0 e1 e2 e3 v0 v1 v2 e8 e9 d0 d1 d2 d3 u0 u1 u2 x0 hcell hJ
        cases b
        ·have HBX:=hidP (HB0.out rfl)
         clear HB0 HB1
         simp only [Bool.not_false]
         go_wp2_with fail
         go_ret
         exact .inr ⟨rfl,HBX.out⟩
        ·obtain ⟨ys2,hl2,hj2,hk2⟩:=HB1.out rfl
         have HJ2:=hidP hj2
         have HL2:=hidP hl2
         have HK2:=hidP hk2
         clear hj2 hl2 hk2 HB1 HB0
         simp only [Bool.not_true]
         go_wp2_with fail
         go_roundw
         case rel=>exact ⟨j+1,ys ++ ys2,by go_num,by omega,by rw [HST.out,List.map_append,HYS.out,HL2.out],by rw [← List.append_assoc];exact HJ2.out,KR.out.trans ((Kq.of_below B7.out).trans HK2.out)⟩
         case measure=>(simp [intOf];omega)
       ·go_simp
        (go_at_call 60;refine (zaT p0 p1 p2 (some ⟨fb,fo,none⟩) T f Z.wE w6 HTK.out hT3 HFC.out).mono ?_;rintro e' w7 ⟨q0,q1,q2,rfl,HTQ,hb7⟩)
        (try go_wp2_with fail)
        refine hK.out _ _ trivial (fun hHeld=>?_)
        clear hK K
        (first | simp only [pA,pZ,pS] | simp only [pN] | skip)
        have B7:=hidP (B6.out.trans (hb7.mono B6.out.size))
        have e9:=zaa hb7 e8
        clear hb7
        refine wpAnyH_ready (rs:=[5]) (by kernel_rfl) (by simp) (AllReadyH.cons (List.getElem?_toArray.trans rfl) (fun K hK=>?_) AllReadyH.nil)
        go_simp
        refine hK.out _ _ trivial (fun hHeld=>?_)
        clear hK K
        (first | simp only [pA,pZ,pS] | simp only [pN] | skip)
        refine wpAnyH_ready (rs:=[13]) (by kernel_rfl) (by simp) (AllReadyH.cons (List.getElem?_toArray.trans rfl) (fun K hK=>?_) AllReadyH.nil)
        go_simp
        (go_at_call 55;(try rw [hwrap]);refine (HG1.out (pre ++ ys) w7 q0 q1 q2 (SXR.out.bel B7.out) (HJJ.out _ _ _ JR.out B7.out) HLE.out HTQ.out).mono ?_;intro e' w8 hpo;obtain ⟨b,rfl,HB1,HB0⟩:=hpo.one;clear hpo)
        (try go_wp2_with fail)
        refine hK.out _ _ trivial (fun hHeld=>?_)
        clear hK K
        (first | simp only [pA,pZ,pS] | simp only [pN] | skip)
        refine tk 14 hHeld ?_
        (try simp only [pA,pZ,pS])
        refine tk 15 hHeld ?_
        (try simp only [pA,pZ,pS])
        refine wpAnyH_done (by kernel_rfl) ?_ _
        refine NoPanic.normal ?_
        clear hwrap HG1 HLE HAG HTQ hHeld e0 e1 e2 e3 v0 v1 v2 e8 e9 d0 d1 d2 d3 u0 u1 u2 x0 hcell hJ
        cases b
        ·have HBX:=hidP (HB0.out rfl)
         clear HB0 HB1
         simp only [Bool.not_false]
         go_wp2_with fail
         go_ret
         exact .inr ⟨rfl,HBX.out⟩
        ·obtain ⟨ys2,hl2,hj2,hk2⟩:=HB1.out rfl
         have HJ2:=hidP hj2
         have HL2:=hidP hl2
         have HK2:=hidP hk2
         clear hj2 hl2 hk2 HB1 HB0
         simp only [Bool.not_true]
         go_wp2_with fail
         go_roundw
         case rel=>exact ⟨j+1,ys ++ ys2,by go_num,by omega,by rw [HST.out,List.map_append,HYS.out,HL2.out],by rw [← List.append_assoc];exact HJ2.out,KR.out.trans ((Kq.of_below B7.out).trans HK2.out)⟩
         case measure=>(simp [intOf];omega)
  ·have hje:j=fs.length:=by omega
   subst hje
   have hy:¬ (fs.length:Int)<(fs.length:Int):=by omega
   go_wp2_with fail
   go_ret
   exact .inl ⟨rfl,ys,by rw [HYS.out,List.take_length];exact HRR.out.symm,JR.out,(Kq.of_below B3.out).trans KR.out⟩
end Go.Proofs.YtmmdlgjmplddiaaGreat
namespace Go.Proofs.YtmmdlgjmplddiaaGreat
open Go.RowKit Go.Maps
attribute [local go_sem ↓] Go.wp_at_zero Go.wp_at_succ
theorem zkW {α:Type}{l ds:List α}{k:Nat}{c:α} (h:l.drop k=c :: ds):l[k]?=some c∧l.drop (k+1)=ds:=by
 constructor
 ·have:=congrArg (fun x=>x[0]?) h
  simpa using this
 ·rw [← List.drop_drop,h]
  rfl
theorem zne (k:Nat):((k+1:Nat):Int)=(k:Int)+1:=by simp
theorem zjE (Z:SK) (J Jx:List (TkX Z.wE)→World→Prop) (N:Nat) (hJ:∀ s W W',J s W→Below W.heap.size W W'→J s W')
  (hY:∀ (mm:Nat) (pre:List (TkX Z.wE)) (x:TkX Z.wE) (W1:World),J pre W1→pre.length<N→YieldAt Fence.wide mm Tryz.prog Z.l #[tkv x.1.1] W1 fun e W'=>(e=.returned (.bool true)∧J (pre ++ [x]) W'∧Kq Z.cb Z.w1.heap.size Z.M W1 W')∨(e=.returned (.bool false)∧Jx (pre ++ [x]) W')) :
  ∀ (ds:List Cx) (k:Nat) (T:List F) (p0 p1 p2:Option Addr) (pre:List (TkX Z.wE)) (W:World),(Z.X.take Z.m).drop k=ds→k≤Z.m→SX Z W→TokX Z.wE p0 p1 p2 T→SrOk (ds.map (cnOf Z.fs)) T→J pre W→pre.length+(zcK (ds.map (cnOf Z.fs)) T).length≤N →
   Calls Tryz.prog 55 #[.int .i64 (k:Int),.agg #[.pointer p0,.pointer p1,.pointer p2],.pointer (some ⟨Z.pb,0,none⟩),.pointer (some ⟨Z.yb,0,none⟩),.pointer (some ⟨Z.sb,0,none⟩),.pointer (some ⟨Z.xb,0,none⟩)] W (SPost Z J Jx pre (zcK (ds.map (cnOf Z.fs)) T) W):=by
 intro ds
 induction ds with
 | nil=>
  intro k T p0 p1 p2 pre W hds hkm hSX hTK hSO hJ0 hN
  have hke:k=Z.m:=by
   have h1:=congrArg List.length hds
   rw [List.length_drop,List.length_take] at h1
   have h2:=Z.hm
   simp at h1
   omega
  subst hke
  exact zjg Z J Jx N hJ hY T p0 p1 p2 hTK pre W hSX hJ0 (by simp [zcK] at hN;omega)
 | cons c ds ih=>
  intro k T p0 p1 p2 pre W hds hkm hSX hTK hSO hJ0 hN
  obtain ⟨hc',hds'⟩:=zkW hds
  have hkl:k<Z.m:=by
   have h1:=(List.getElem?_eq_some_iff.1 hc').1
   rw [List.length_take] at h1
   omega
  have hc:Z.X[k]?=some c:=by
   rw [List.getElem?_take,if_pos hkl] at hc'
   exact hc'
  rw [List.map_cons] at hSO hN
  obtain ⟨hat,hlt,hfit,hrest⟩:=hSO
  cases hneg:c.cp.neg with
  | true=>
   have hn':(cnOf Z.fs c).neg=true:=hneg
   rw [if_pos hn'] at hrest
   rw [List.map_cons,zhU hn']
   rw [zhU hn'] at hN
   refine zjn Z J Jx hJ c k hc hkl T p0 p1 p2 pre W hSX hTK hfit hJ0 hneg (zcK (ds.map (cnOf Z.fs)) T) _ (fun h=>?_) (fun h=>?_) (fun h W' hS' hJ'=>?_)
   ·rw [if_pos (show (cnOf Z.fs c).facts.any (fun f=>(cnOf Z.fs c).tests.all (zaI T f))=true from h)]
   ·rw [if_neg (show ¬ (cnOf Z.fs c).facts.any (fun f=>(cnOf Z.fs c).tests.all (zaI T f))=true from by rw [show (cnOf Z.fs c).facts.any (fun f=>(cnOf Z.fs c).tests.all (zaI T f))=false from h];simp)]
   ·have hx:=ih (k+1) T p0 p1 p2 pre W' hds' (by omega) hS' hTK hrest hJ' (by rw [if_neg (show ¬ (cnOf Z.fs c).facts.any (fun f=>(cnOf Z.fs c).tests.all (zaI T f))=true from by rw [show (cnOf Z.fs c).facts.any (fun f=>(cnOf Z.fs c).tests.all (zaI T f))=false from h];simp)] at hN;exact hN)
    rw [zne] at hx
    exact hx
  | false=>
   have hn':(cnOf Z.fs c).neg=false:=hneg
   rw [if_neg (by rw [hn'];simp)] at hrest
   rw [List.map_cons,zhc hn']
   rw [zhc hn'] at hN
   refine zjJ Z J Jx hJ c k hc hkl T p0 p1 p2 pre W hSX hTK hfit hJ0 hneg hat (hlt hn') N _ (fun f=>if c.cp.tests.all (zaI T f)=true then zcK (ds.map (cnOf Z.fs)) (T ++ [f]) else []) rfl hN (fun f _ h=>?_) (fun f hf h pre' W' q0 q1 q2 hS' hJ' hb hT'=>?_)
   ·simp [h]
   ·simp only [if_pos h] at hb ⊢
    have hx:=ih (k+1) (T ++ [f]) q0 q1 q2 pre' W' hds' (by omega) hS' hT' (hrest f hf h) hJ' hb
    rw [zne] at hx
    exact hx
theorem zgD {P:Program} (w:World) (a:Addr) (m:Mode) (fn:Fn) (x y:Array Value):(store a (.func fn x y) m).run P w=stored P w a (.func fn x y) m:=run_store P w a _ m rfl
theorem zlX {P:World→Prop}{w:World}{b:Nat}{t:TypeId}{x0 y0:Value} (h0:w.heap[b]?=some (.cells #[x0] t (0,0))) (h:∀ wt,wt.heap[b]?=some (.cells #[y0] t (0,0))→Turned w wt b→P wt):P (w.setCell ⟨b,0,none⟩ y0):=by
 have h1:=zad (i:=0) h0 y0
 exact h _ (by simpa using h1) (Turned.setCells [y0] 0 w b)
theorem zn9 (k:Nat):Fence.wide.room k:=room_wide k
theorem YieldAt.wideDepth {m:Nat} (m':Nat) {P:Program}{l:Nat}{args:Array Value}{W:World}{R:Ending→World→Prop} (h:YieldAt Fence.wide m P l args W R):YieldAt Fence.wide m' P l args W R:=by
 obtain ⟨fn,tmps,assign,body,hy,hR⟩:=h
 exact ⟨fn,tmps,assign,body,hy,hR.1,fun c cs _=>hR.2 c cs (zn9 _)⟩
theorem zjq {α:Type}{J:List α→World→Prop}{B:Nat} (h:AbidesFrom B J):∀ s W W',J s W→Below W.heap.size W W'→J s W':=fun s W W' hs hb=>
 h s W W' none hs ⟨hb.os,hb.tape,hb.output,hb.size,fun k hk _=>hb.block k hk⟩ (fun r e=>by cases e)
set_option maxRecDepth 100000 in
set_option maxHeartbeats 3200000 in
theorem zhT (Z:SK) (J Jx:List (TkX Z.wE)→World→Prop) (hJ:∀ s W W',J s W→Below W.heap.size W W'→J s W') (W:World) (hlk:Lko Z.wE.heap.size Z.B Z.w1 W)
  (hpl:W.heap[Z.pb]?=some (.cells #[.slice Z.ca Z.m Z.cc,Z.vv] 71 (0,0))) (hsd:W.heap[Z.sb]?=some (.cells #[.int .i64 (-1),.pointer none] 77 (0,0))) (hyb:Z.yb=W.heap.size) (hxb:Z.xb=W.heap.size+1) (hso:SrOk ((Z.X.take Z.m).map (cnOf Z.fs)) [])
  (hY:∀ (mm:Nat) (pre:List (TkX Z.wE)) (x:TkX Z.wE) (W1:World),J pre W1→pre.length<(zcK ((Z.X.take Z.m).map (cnOf Z.fs)) []).length→YieldAt Fence.wide mm Tryz.prog Z.l #[tkv x.1.1] W1 fun e W'=>(e=.returned (.bool true)∧J (pre ++ [x]) W'∧Kq Z.cb Z.w1.heap.size Z.M W1 W')∨(e=.returned (.bool false)∧Jx (pre ++ [x]) W')) (h0:J [] W) :
  Calls Tryz.prog 54 #[.func (.yield Z.l) #[] #[],.pointer (some ⟨Z.pb,0,none⟩),.pointer (some ⟨Z.sb,0,none⟩)] W fun e W'=>(∃ v,e=.returned v)∧((∃ xs:List (TkX Z.wE),xs.map tkT=zcK ((Z.X.take Z.m).map (cnOf Z.fs)) []∧J xs W')∨(∃ pre,True∧Jx pre W')):=by
 have hmf:=hmfP
 go_enter Tryz.func54,Tryz.ntmps54
 go_upto_region 2 with fail
 refine lift2P ?_
 intro w1 hW1 hr1 hr2
 rw [← hyb] at hr1 ⊢
 rw [← hxb] at hr2
 rw [show Z.yb+1=Z.xb by omega]
 have hyx:Z.yb<Z.xb:=by omega
 have hwy:W.heap.size≤Z.yb:=by omega
 clear hyb hxb
 have hsf:=@zgD Tryz.prog
 have k0:=cell1P hr2
 have k1:w1.frozen? ⟨Z.xb,0,none⟩=false:=by simp [World.frozen?,hr2]
 go_upto_region 3 with fail
 refine zlX hr2 ?_
 intro w2 hq2 ht2
 have hW2:Below W.heap.size W w2:=hW1.trans (ht2.below (by omega))
 have hq1:=(ht2.block Z.yb (by omega)).trans hr1
 clear k0 k1 hr1 hr2 ht2 hW1 hsf
 have SX2:=hidP (show SX Z w2 from ⟨hlk.trans (Lko.of_below hW2),(hW2.block _ (zab hpl)).trans hpl,hq1,(hW2.block _ (zab hsd)).trans hsd,hq2⟩)
 have x0:=cell1P hq2
 have HS:=hidP (zjE Z J Jx _ hJ hY (Z.X.take Z.m) 0 [] none none none [] w2 (by simp) (Nat.zero_le _) SX2.out ⟨fun i f hi=>by simp at hi,fun _=>rfl,fun _=>rfl,fun _=>rfl,by simp⟩ hso (hJ _ _ _ h0 hW2) (by simp))
 clear hW2 hq1 hq2 hpl hsd hlk
 go_wp2_with fail
 refine HS.out.mono ?_
 rintro e w3 (⟨rfl,ys,hl,hj,_⟩ | ⟨rfl,q,hq⟩)
 ·go_wp2_with fail
  go_end0
  exact ⟨⟨_,rfl⟩,.inl ⟨ys,hl,by simpa using hj⟩⟩
 ·go_wp2_with fail
  go_end0
  exact ⟨⟨_,rfl⟩,.inr ⟨q,trivial,hq⟩⟩
set_option maxHeartbeats 1600000 in
theorem zit (v0 v1:Value) (a0 a1:Option Addr) (n0 c0 n1 c1:Nat) (h0:v0=.slice a0 n0 c0) (h1:v1=.slice a1 n1 c1) (w:World) :
  Calls Tryz.prog 22 #[.agg #[v0,v1],.agg #[.int .i64 (-1),.pointer none]] w fun e w'=>e=.returned (.func (.func 54) #[] #[.pointer (some ⟨w.heap.size,0,none⟩),.pointer (some ⟨w.heap.size+1,0,none⟩)])∧Hid (w'.heap[w.heap.size]?=some (.cells #[v0,v1] 71 (0,0)))∧Hid (w'.heap[w.heap.size+1]?=some (.cells #[.int .i64 (-1),.pointer none] 77 (0,0)))∧Below w.heap.size w w':=by
 subst h0 h1
 have hmf:=hmfP
 go_enter Tryz.func22,Tryz.ntmps22
 go_upto_region 1 with fail
 refine lift2P ?_
 intro w2 hW2 hq1 hq2
 have B2:=hidP hW2
 have Q1:=hidP hq1
 have Q2:=hidP hq2
 clear hW2 hq1 hq2
 go_wp2_with fail
 go_ret
 exact ⟨rfl,Q1,Q2,B2.out⟩
set_option maxHeartbeats 1600000 in
theorem zj0 (w:World):Calls Tryz.prog 23 #[] w fun e w'=>e=.returned (.agg #[.int .i64 (-1),.pointer none])∧Below w.heap.size w w':=by
 go_enter Tryz.func23,Tryz.ntmps23
 go_wp2_with fail
 refine bodyPost_ret (v:=.agg #[.int .i64 (-1),.pointer none]) (by simp [results,Tryz.results23,go_sem]) rfl ⟨rfl,?_⟩
 first
 | exact (Below.refl _ _).alloc (Nat.le_refl _) _
 | exact (((Below.refl _ _).alloc (Nat.le_refl _) _).setCell (by simp) _).setCell (by simp) _
end Go.Proofs.YtmmdlgjmplddiaaGreat
namespace Go.Proofs.YtmmdlgjmplddiaaGreat
open Go.RowKit Go.Maps
def zkE (Ds:List Nat):List Deferred:=Ds.map (fun D=>{ target:=.collected D,args:=#[] })
structure zl3 (B:Nat) (Ds:List Nat) (W:World):Prop where
 nodup:Ds.Nodup
 each:∀ D∈Ds,B≤D∧W.heap[D]?=some (.deferred (some []))
theorem Kq.putObj {cb L M l:Nat}{W:World}{o o':Obj} (hL:L≤M) (hM:M≤l) (hl:W.heap[l]?=some o) (ho:o.isCells=false):Kq cb L M W (W.putObj l o'):=
 ⟨rfl,rfl,rfl,by simp,fun k hk _ h=>World.putObj_heap_other (fun e=>by
  subst e
  rcases h with h | ⟨h | ⟨c,t,fr,h⟩,_⟩
  ·omega
  ·omega
  ·rw [hl] at h
   cases h
   simp [Obj.isCells] at ho)⟩
structure CI (wE w1:World) (B cb bb M:Nat) (Ds:List Nat) (vp:Array Value) (c0:Nat) (pre:List (TkX wE)) (W:World):Prop where
 cnt:W.heap[cb]?=some (.cells #[.int .i64 ((c0+pre.length:Nat):Int)] 3 (0,0))
 lk:Lko wE.heap.size B w1 W
 box:W.heap[bb]?=some (.cells vp 71 (0,0))
 def':zl3 wE.heap.size Ds W
 low:∀ D∈Ds,D<M
theorem CI.own {wE w1:World}{B cb bb M:Nat}{Ds:List Nat}{vp:Array Value}{c0:Nat} (h3:w1.heap.size≤M):OwnFrom M (CI wE w1 B cb bb M Ds vp c0):=by
 intro pre W W' row h hg hr
 have key:∀ k,k<W.heap.size→(k<M∨∃ c t fr,W.heap[k]?=some (.cells c t fr))→W'.heap[k]?=W.heap[k]?:=fun k hk hh=>hg.block k hk (fun e=>by
  obtain ⟨hM,o,ho,hc⟩:=hr k e.symm
  rcases hh with hh | ⟨c,t,fr,hh⟩
  ·omega
  ·rw [ho] at hh
   cases hh
   simp [Obj.isCells] at hc)
 refine ⟨(key cb (zab h.cnt) (.inr ⟨_,_,_,h.cnt⟩)).trans h.cnt,⟨hg.os.trans h.lk.os,hg.tape.trans h.lk.tape,hg.output.trans h.lk.output,Nat.le_trans h.lk.size hg.size,fun g hgl h4=>(key g (Nat.lt_of_lt_of_le hgl h.lk.size) (.inl (by omega))).trans (h.lk.block g hgl h4)⟩,(key bb (zab h.box) (.inr ⟨_,_,_,h.box⟩)).trans h.box,⟨h.def'.nodup,fun D hD=>⟨(h.def'.each D hD).1,?_⟩⟩,h.low⟩
 have hW:=(h.def'.each D hD).2
 exact (key D ((Array.getElem?_eq_some_iff.1 hW).1) (.inl (h.low D hD))).trans hW
theorem CI.round {wE w1:World}{B cb bb M:Nat}{Ds:List Nat}{vp:Array Value}{c0:Nat}{pre:List (TkX wE)}{x:TkX wE}{W:World} (h:CI wE w1 B cb bb M Ds vp c0 pre W) (h1:wE.heap.size≤cb) (h2:cb<B) (hne:bb≠cb):CI wE w1 B cb bb M Ds vp c0 (pre ++ [x]) (W.setCell ⟨cb,0,none⟩ (.int .i64 ((c0+pre.length:Nat)+1:Int)))∧Kq cb w1.heap.size M W (W.setCell ⟨cb,0,none⟩ (.int .i64 ((c0+pre.length:Nat)+1:Int))):=by
 have ht:Turned W (W.setCell ⟨cb,0,none⟩ (.int .i64 ((c0+pre.length:Nat)+1:Int))) cb:=Turned.setCells [_] 0 W cb
 have h':=zad (i:=0) h.cnt (.int .i64 ((c0+pre.length:Nat)+1:Int))
 refine ⟨⟨?_,h.lk.trans (Lko.of_turned ht h1 h2),(ht.block bb hne).trans h.box,⟨h.def'.nodup,fun D hD=>⟨(h.def'.each D hD).1,?_⟩⟩,h.low⟩,⟨ht.os,ht.tape,ht.output,Nat.le_of_eq ht.size.symm,fun k _ hk _=>ht.block k hk⟩⟩
 ·have e:(c0+(pre ++ [x]).length:Nat)=(c0+pre.length)+1:=by simp;omega
  rw [e]
  simpa using h'
 ·have hW:=(h.def'.each D hD).2
  rw [ht.block D (fun e=>by subst e;rw [h.cnt] at hW;cases hW)]
  exact hW
theorem znu (Z:SK) (n:Nat) (w:World) (hlk:Lko Z.wE.heap.size Z.B Z.w1 w) (hpl:w.heap[Z.pb]?=some (.cells #[.slice Z.ca Z.m Z.cc,Z.vv] 71 (0,0))) (hsd:w.heap[Z.sb]?=some (.cells #[.int .i64 (-1),.pointer none] 77 (0,0))) (hso:SrOk ((Z.X.take Z.m).map (cnOf Z.fs)) []) (hcb:Z.cb<w.heap.size) :
  SeqStopsK Fence.wide n Tryz.prog 54 #[.pointer (some ⟨Z.pb,0,none⟩),.pointer (some ⟨Z.sb,0,none⟩)] (fun x:TkX Z.wE=>#[tkv x.1.1]) (Kq Z.cb Z.w1.heap.size Z.M) (fun ys=>ys.map tkT=zcK ((Z.X.take Z.m).map (cnOf Z.fs)) []) (fun _=>True) (zcK ((Z.X.take Z.m).map (cnOf Z.fs)) []).length w:=by
 intro l J Jx W hW hJ _ hY h0
 have hs:=hW.size
 refine callsIn_wide.2 ?_
 exact zhT { Z with l:=l,yb:=W.heap.size,xb:=W.heap.size+1,n2:=by omega,n4:=by omega } J Jx (zjq hJ) W (hlk.trans (Lko.of_below hW)) ((hW.block _ (zab hpl)).trans hpl) ((hW.block _ (zab hsd)).trans hsd) rfl rfl hso (fun mm pre x W1 hj hl=>YieldAt.wideDepth mm (hY pre x W1 hj hl)) h0
end Go.Proofs.YtmmdlgjmplddiaaGreat
namespace Go.Proofs.YtmmdlgjmplddiaaGreat
open Go.RowKit Go.Maps
attribute [local go_sem ↓] Go.wp_at_zero Go.wp_at_succ
theorem zeros3:madeCells #[.int .i64 0] 3=#[.int .i64 0,.int .i64 0,.int .i64 0]:=by kernel_rfl
theorem mk03 (w:World):(Instr.makeSlice 39 (.int .i64 0) (.int .i64 3)).run Tryz.prog w=.ok (.slice (some ⟨w.heap.size,0,none⟩) 0 3) (w.alloc (.cells #[.int .i64 0,.int .i64 0,.int .i64 0] 3)):=by
 obtain ⟨i,hi,hz0,hz1,hz2⟩:=info_parts zep
 have hr:=run_make (P:=Tryz.prog) w 39 3 i _ Tryz.underlying39 hi hz0 .i64 .i64 0 3 (by omega) (by omega) (by rw [hz2];omega) (by omega)
 rw [hr,hz1]
 exact congrArg (fun c=>Result.ok (Value.slice (some ⟨w.heap.size,0,none⟩) 0 3) (w.alloc (.cells c 3))) zeros3
theorem own03 {w:World}{base g:Nat} (h:w.heap[g]?=some (.cells #[.int .i64 0,.int .i64 0,.int .i64 0] 3 (0,0))) (hb:base≤g):w.ownsRow base 3 1 (.slice (some ⟨g,0,none⟩) 0 3) 0 (icells []):=
 ⟨rfl,.inr ⟨g,3,_,rfl,hb,h,by omega,by unfold maxLen;omega,rfl,rfl⟩⟩
theorem zh6 {T:List F}{k:Nat}{f:F} (h:T[k]?=some f):(T.take (k+1)).map (·.tag)=(T.take k).map (·.tag) ++ [f.tag]:=by
 rw [List.take_add_one,h]
 simp
theorem ix3 (x0 x1 x2:Value) (w:World):(Instr.index 80 (.agg #[x0,x1,x2]) (.int .i64 0)).run Tryz.prog w=.ok x0 w∧(Instr.index 80 (.agg #[x0,x1,x2]) (.int .i64 1)).run Tryz.prog w=.ok x1 w∧(Instr.index 80 (.agg #[x0,x1,x2]) (.int .i64 2)).run Tryz.prog w=.ok x2 w:=⟨by kernel_rfl,by kernel_rfl,by kernel_rfl⟩
def zmD (xs:List Int) (w:World) (e:Ending) (w':World):Prop:=(∃ a c,e=.returned (.slice a xs.length c)∧w'.ownsRow w.heap.size 3 1 (.slice a xs.length c) xs.length (icells xs))∧Below w.heap.size w w'
set_option maxRecDepth 100000 in
set_option maxHeartbeats 6400000 in
theorem zib (p0 p1 p2:Option Addr) (T:List F) (w:World) (hT:TokX w p0 p1 p2 T) :
  Calls Tryz.prog 24 #[.agg #[.pointer p0,.pointer p1,.pointer p2]] w (zmD (T.map (·.tag)) w):=by
 have HT:=hidP hT
 have hl3:=hT.le
 have hmk:=mk03
 clear hT
 go_enter Tryz.func24,Tryz.ntmps24
 go_upto_region 2 with fail
 refine lift2P ?_
 intro w1 hW1 hq0 hq1
 obtain ⟨t0,t1,t2⟩:=cells3P hq0
 have H1:=hidP hW1
 have O1:=hidP (own03 (base:=w.heap.size) hq1 (Nat.le_succ _))
 clear hW1 hq0 hq1 hmk
 go_wp2_with fail
 clear t0 t1 t2
 go_loopw [8,3] (fun iv sv wr=>∃ (k:Nat) (ki:Int) (a:Option Addr) (c:Nat),iv=.int .i64 ki∧ki=(k:Int)∧k≤3∧sv=.slice a ((T.take k).map (·.tag)).length c∧wr.ownsRow w.heap.size 3 1 (.slice a ((T.take k).map (·.tag)).length c) ((T.take k).map (·.tag)).length (icells ((T.take k).map (·.tag)))∧Below w.heap.size w wr) (fun iv _ _=>3 - (intOf iv).toNat)
 case atStart=>exact ⟨0,0,_,3,rfl,rfl,Nat.zero_le _,rfl,O1.out,H1.out⟩
 case round=>
  obtain ⟨k,ki,a,c,rfl,hki,hkl,rfl,hrow,hb⟩:=hrel
  have ROW:=hidP hrow
  have BR:=hidP hb
  have TR:=hidP (HT.out.tok.below hb)
  have hsr:=hb.size
  have hln:((T.take k).map (·.tag)).length≤3:=by rw [List.length_map,List.length_take];omega
  have HWR:=hidP (fun o'=>(Below.refl _ _).alloc (Nat.le_refl _) o':∀ o',Below wr.heap.size wr (wr.alloc o'))
  clear hrow hb
  rcases (show k=0∨k=1∨k=2∨k=3 by omega) with rfl | rfl | rfl | rfl
  ·obtain rfl:ki=0:=by omega
   clear hki
   by_cases hk:0<T.length
   ·obtain ⟨f,hf⟩:∃ f,T[0]?=some f:=⟨T[0],by simp [hk]⟩
    obtain ⟨pv,hp,hfac⟩:=TR.out 0 f hf
    simp at hp
    subst hp
    obtain ⟨fb,fo,he,c0,_⟩:=hfac
    injection he with he
    subst he
    have HTK:=hidP (zh6 hf)
    obtain ⟨n,hn⟩:∃ n,n=((T.take 0).map (·.tag)).length:=⟨_,rfl⟩
    obtain ⟨xs,hxs⟩:∃ xs,xs=(T.take 0).map (·.tag):=⟨_,rfl⟩
    rw [← hxs] at ROW hln hn HTK ⊢
    rw [← hn] at ROW hln ⊢
    have HN:=hidP hn
    clear hf hk hn hxs TR
    obtain ⟨j0,j1,j2⟩:(∀ w,_)∧(∀ w,_)∧(∀ w,_):=⟨fun w=>(ix3 (.pointer (some ⟨fb,fo,none⟩)) (.pointer p1) (.pointer p2) w).1,fun w=>(ix3 (.pointer (some ⟨fb,fo,none⟩)) (.pointer p1) (.pointer p2) w).2.1,fun w=>(ix3 (.pointer (some ⟨fb,fo,none⟩)) (.pointer p1) (.pointer p2) w).2.2⟩
    go_wp2_with (first | (at_builtin;refine zae (by rfl) (.tmp 13) (.tmp 18) 39 (by rfl) w.heap.size 3 _ 1 8 Tryz.underlying39 zep (by rfl) (by omega) _ n _ (by rfl) (zai ROW.out (HWR.out _)) (some ⟨_,0,none⟩) 1 1 (by rfl) [.int .i64 f.tag] (by rfl) (fun e=>by cases e) (zaw _ _ _ _ (by simp)) (by intro u hu;simp at hu;subst hu;rfl) (by unfold maxLen;omega) (by omega) (by simp;omega) ?_;intro a2 c2 w7 ho2 hg2 hl2) | fail)
    have T7:=hidP (show w7.ownsRow w.heap.size 3 1 (.slice a2 (n+1) c2) (n+1) (icells (xs ++ [f.tag])) by have:=ho2.out;rw [ze4];simpa using this)
    have B7:=hidP ((BR.out.trans ((HWR.out _).mono BR.out.size)).grown hg2.out (by simp;omega) (fun g hg=>(ROW.out.lt g hg).1))
    clear ho2 hg2 hl2
    go_roundw
    case rel=>exact ⟨1,1,a2,c2,by go_num,rfl,by omega,by rw [HTK.out,List.length_append,← HN.out];rfl,by rw [HTK.out,List.length_append,← HN.out];exact T7.out,B7.out⟩
    case measure=>(simp [intOf])
   ·have hz:=HT.out.z0 (by omega)
    subst hz
    have HTK:=hidP (show T.take (0+1)=T.take 0 by rw [List.take_of_length_le (by omega),List.take_of_length_le (by omega)])
    obtain ⟨j0,j1,j2⟩:(∀ w,_)∧(∀ w,_)∧(∀ w,_):=⟨fun w=>(ix3 (.pointer none) (.pointer p1) (.pointer p2) w).1,fun w=>(ix3 (.pointer none) (.pointer p1) (.pointer p2) w).2.1,fun w=>(ix3 (.pointer none) (.pointer p1) (.pointer p2) w).2.2⟩
    go_wp2_with fail
    go_roundw
    case rel=>exact ⟨1,1,a,c,by go_num,rfl,by omega,by rw [HTK.out],by rw [HTK.out];exact ROW.out,BR.out⟩
    case measure=>(simp [intOf])
  ·obtain rfl:ki=1:=by omega
   clear hki
   by_cases hk:1<T.length
   ·obtain ⟨f,hf⟩:∃ f,T[1]?=some f:=⟨T[1],by simp [hk]⟩
    obtain ⟨pv,hp,hfac⟩:=TR.out 1 f hf
    simp at hp
    subst hp
    obtain ⟨fb,fo,he,c0,_⟩:=hfac
    injection he with he
    subst he
    have HTK:=hidP (zh6 hf)
    obtain ⟨n,hn⟩:∃ n,n=((T.take 1).map (·.tag)).length:=⟨_,rfl⟩
    obtain ⟨xs,hxs⟩:∃ xs,xs=(T.take 1).map (·.tag):=⟨_,rfl⟩
    rw [← hxs] at ROW hln hn HTK ⊢
    rw [← hn] at ROW hln ⊢
    have HN:=hidP hn
    clear hf hk hn hxs TR
    obtain ⟨j0,j1,j2⟩:(∀ w,_)∧(∀ w,_)∧(∀ w,_):=⟨fun w=>(ix3 (.pointer p0) (.pointer (some ⟨fb,fo,none⟩)) (.pointer p2) w).1,fun w=>(ix3 (.pointer p0) (.pointer (some ⟨fb,fo,none⟩)) (.pointer p2) w).2.1,fun w=>(ix3 (.pointer p0) (.pointer (some ⟨fb,fo,none⟩)) (.pointer p2) w).2.2⟩
    go_wp2_with (first | (at_builtin;refine zae (by rfl) (.tmp 13) (.tmp 18) 39 (by rfl) w.heap.size 3 _ 1 8 Tryz.underlying39 zep (by rfl) (by omega) _ n _ (by rfl) (zai ROW.out (HWR.out _)) (some ⟨_,0,none⟩) 1 1 (by rfl) [.int .i64 f.tag] (by rfl) (fun e=>by cases e) (zaw _ _ _ _ (by simp)) (by intro u hu;simp at hu;subst hu;rfl) (by unfold maxLen;omega) (by omega) (by simp;omega) ?_;intro a2 c2 w7 ho2 hg2 hl2) | fail)
    have T7:=hidP (show w7.ownsRow w.heap.size 3 1 (.slice a2 (n+1) c2) (n+1) (icells (xs ++ [f.tag])) by have:=ho2.out;rw [ze4];simpa using this)
    have B7:=hidP ((BR.out.trans ((HWR.out _).mono BR.out.size)).grown hg2.out (by simp;omega) (fun g hg=>(ROW.out.lt g hg).1))
    clear ho2 hg2 hl2
    go_roundw
    case rel=>exact ⟨2,2,a2,c2,by go_num,rfl,by omega,by rw [HTK.out,List.length_append,← HN.out];rfl,by rw [HTK.out,List.length_append,← HN.out];exact T7.out,B7.out⟩
    case measure=>(simp [intOf])
   ·have hz:=HT.out.z1 (by omega)
    subst hz
    have HTK:=hidP (show T.take (1+1)=T.take 1 by rw [List.take_of_length_le (by omega),List.take_of_length_le (by omega)])
    obtain ⟨j0,j1,j2⟩:(∀ w,_)∧(∀ w,_)∧(∀ w,_):=⟨fun w=>(ix3 (.pointer p0) (.pointer none) (.pointer p2) w).1,fun w=>(ix3 (.pointer p0) (.pointer none) (.pointer p2) w).2.1,fun w=>(ix3 (.pointer p0) (.pointer none) (.pointer p2) w).2.2⟩
    go_wp2_with fail
    go_roundw
    case rel=>exact ⟨2,2,a,c,by go_num,rfl,by omega,by rw [HTK.out],by rw [HTK.out];exact ROW.out,BR.out⟩
    case measure=>(simp [intOf])
  ·obtain rfl:ki=2:=by omega
   clear hki
   by_cases hk:2<T.length
   ·obtain ⟨f,hf⟩:∃ f,T[2]?=some f:=⟨T[2],by simp [hk]⟩
    obtain ⟨pv,hp,hfac⟩:=TR.out 2 f hf
    simp at hp
    subst hp
    obtain ⟨fb,fo,he,c0,_⟩:=hfac
    injection he with he
    subst he
    have HTK:=hidP (zh6 hf)
    obtain ⟨n,hn⟩:∃ n,n=((T.take 2).map (·.tag)).length:=⟨_,rfl⟩
    obtain ⟨xs,hxs⟩:∃ xs,xs=(T.take 2).map (·.tag):=⟨_,rfl⟩
    rw [← hxs] at ROW hln hn HTK ⊢
    rw [← hn] at ROW hln ⊢
    have HN:=hidP hn
    clear hf hk hn hxs TR
    obtain ⟨j0,j1,j2⟩:(∀ w,_)∧(∀ w,_)∧(∀ w,_):=⟨fun w=>(ix3 (.pointer p0) (.pointer p1) (.pointer (some ⟨fb,fo,none⟩)) w).1,fun w=>(ix3 (.pointer p0) (.pointer p1) (.pointer (some ⟨fb,fo,none⟩)) w).2.1,fun w=>(ix3 (.pointer p0) (.pointer p1) (.pointer (some ⟨fb,fo,none⟩)) w).2.2⟩
    go_wp2_with (first | (at_builtin;refine zae (by rfl) (.tmp 13) (.tmp 18) 39 (by rfl) w.heap.size 3 _ 1 8 Tryz.underlying39 zep (by rfl) (by omega) _ n _ (by rfl) (zai ROW.out (HWR.out _)) (some ⟨_,0,none⟩) 1 1 (by rfl) [.int .i64 f.tag] (by rfl) (fun e=>by cases e) (zaw _ _ _ _ (by simp)) (by intro u hu;simp at hu;subst hu;rfl) (by unfold maxLen;omega) (by omega) (by simp;omega) ?_;intro a2 c2 w7 ho2 hg2 hl2) | fail)
    have T7:=hidP (show w7.ownsRow w.heap.size 3 1 (.slice a2 (n+1) c2) (n+1) (icells (xs ++ [f.tag])) by have:=ho2.out;rw [ze4];simpa using this)
    have B7:=hidP ((BR.out.trans ((HWR.out _).mono BR.out.size)).grown hg2.out (by simp;omega) (fun g hg=>(ROW.out.lt g hg).1))
    clear ho2 hg2 hl2
    go_roundw
    case rel=>exact ⟨3,3,a2,c2,by go_num,rfl,by omega,by rw [HTK.out,List.length_append,← HN.out];rfl,by rw [HTK.out,List.length_append,← HN.out];exact T7.out,B7.out⟩
    case measure=>(simp [intOf])
   ·have hz:=HT.out.z2 (by omega)
    subst hz
    have HTK:=hidP (show T.take (2+1)=T.take 2 by rw [List.take_of_length_le (by omega),List.take_of_length_le (by omega)])
    obtain ⟨j0,j1,j2⟩:(∀ w,_)∧(∀ w,_)∧(∀ w,_):=⟨fun w=>(ix3 (.pointer p0) (.pointer p1) (.pointer none) w).1,fun w=>(ix3 (.pointer p0) (.pointer p1) (.pointer none) w).2.1,fun w=>(ix3 (.pointer p0) (.pointer p1) (.pointer none) w).2.2⟩
    go_wp2_with fail
    go_roundw
    case rel=>exact ⟨3,3,a,c,by go_num,rfl,by omega,by rw [HTK.out],by rw [HTK.out];exact ROW.out,BR.out⟩
    case measure=>(simp [intOf])
  ·obtain rfl:ki=3:=by omega
   clear hki
   have HE:=hidP (show T.take 3=T from List.take_of_length_le hl3)
   rw [HE.out] at ROW ⊢
   go_wp2_with fail
   go_ret
   exact ⟨⟨a,c,by rw [List.length_map];rfl,ROW.out⟩,BR.out⟩
end Go.Proofs.YtmmdlgjmplddiaaGreat
namespace Go.Proofs.YtmmdlgjmplddiaaGreat
open Go.RowKit
theorem zg0 {l n:Nat}{P:Program}{ops:Array Oper}{Q:Exit→Act→World→Prop} (hq:¬ LetsOut Q) (hd:∀ (i:Nat) (o:Oper),ops[i]?=some o→∀ c,o.op≠.defer c) :
  ∀ (is:List Nat) (a:Act) (w:World),wpOps P ops Q is a w→wpOpsIn (Fence.wide.inRound l) n P ops Q is a w:=by
 intro is
 induction is with
 | nil=>intro a w h;exact h
 | cons i rest ih=>
  intro a w h
  unfold wpOps at h
  unfold wpOpsIn
  cases ho:ops[i]? with
  | none=>
   rw [ho] at h
   exact ih a w h
  | some o=>
   rw [ho] at h
   simp only at h ⊢
   split
   ·rename_i hw
    rw [if_pos hw] at h
    have h:o.wp P a w (wpOps P ops Q rest) Q:=h.resolve_right (fun h'=>hq h'.2)
    refine ⟨fun _ _=>trivial,?_⟩
    rw [Oper.semAt_plain _ _ _ (hd i o ho)]
    unfold Oper.wp at h
    generalize (execOp a.eval o).run P w=r at h ⊢
    cases r with
    | ok x w'=>
     cases x <;> simp only [Oper.upon,Oper.uponIn] at h ⊢ <;> first
      | exact ih _ _ h
      | exact h.elim
      | (refine ⟨fun hx=>(by simp [Fence.wide] at hx),CallsIn.inRound l (callsIn_wide.2 (Calls.mono h ?_))⟩;intro e w'' he;cases e;exact ih _ _ he;exact he;exact he)
      | exact ⟨fun hx=>(by simp [Fence.wide] at hx),fun c cs _=>let ⟨v,w'',r,s⟩:=h c cs;⟨v,w'',ih _ _ r,stepsIn_wide.2 s⟩⟩
    | halt x w'=>cases x <;> simp only [Oper.upon,Oper.uponIn] at h ⊢ <;> exact h
   ·rename_i hw
    rw [if_neg hw] at h
    exact ⟨fun _ _=>trivial,ih _ _ h⟩
theorem zjS {l n:Nat}{P:Program}{id:Nat}{ops:Array Oper}{Q:Exit→Act→World→Prop}{S:World→Prop}{a:Act}{w:World} (hq:¬ LetsOut Q) (hd:∀ (i:Nat) (o:Oper),ops[i]?=some o→∀ c,o.op≠.defer c) (hm:P.follows .mixedOrders=true) (hS:S w.drew)
  (h:S w.drew→wpAnyH P .any ops Q S ops.size (Array.replicate ops.size false) a w.drew):(Code.region id ops true).wpIn (Fence.wide.inRound l) n P Q a w:=
 wpIn_region_draw fun t=>by
  simp only [Region.schedule,hm,Bool.true_or,if_true]
  exact zg0 hq hd _ _ _ (wpAny_sound ops.size t _ a _ (wpAny_of_held _ _ _ _ (h hS)))
theorem zjR {l n:Nat}{P:Program}{id:Nat}{ops:Array Oper}{Q:Exit→Act→World→Prop}{S:World→Prop}{a:Act}{w:World} (hq:¬ LetsOut (NoPanic Q)) (hd:∀ (i:Nat) (o:Oper),ops[i]?=some o→∀ c,o.op≠.defer c) (hm:P.follows .mixedOrders=true) (hS:S w.drew)
  (h:S w.drew→wpAnyH P .any ops (NoPanic Q) S ops.size (Array.replicate ops.size false) a w.drew):(Code.region id ops true).wpIn (Fence.wide.inRound l) n P Q a w:=
 wpIn_mono (zjS hq hd hm hS h) (fun _ _ _ h=>NoPanic.imp _ _ _ h)
end Go.Proofs.YtmmdlgjmplddiaaGreat
namespace Go.Proofs.YtmmdlgjmplddiaaGreat
open Go.RowKit Go.Maps
structure Mkd (B:Nat) (W W':World):Prop where
 bel:Below B W W'
 cel:∀ (k:Nat) c t fr,W.heap[k]?=some (.cells c t fr)→W'.heap[k]?=some (.cells c t fr)
theorem zek {n:Nat}{fn:Func}{tmps:Array Value}{R:Ending→World→Prop}{B:Nat}:∀ (Ds:List Nat) (W:World),zl3 B Ds W→(∀ W',Mkd B W W'→∃ v,(results fn tmps).run Tryz.prog W'=.ok v W'∧R (.returned v) W')→LeavesInM Fence.wide n Tryz.prog fn tmps R (zkE Ds) .returning W
 | [],W,_,h=>h W ⟨Below.refl _ _,fun _ _ _ _ h=>h⟩
 | D :: Ds,W,hd,h=>by
  obtain ⟨hB,hD⟩:=hd.each D (by simp)
  have hnd:=List.nodup_cons.1 hd.nodup
  have hbp:Mkd B W (W.putObj D (.deferred none)):=⟨⟨rfl,rfl,rfl,by simp,fun k hk=>World.putObj_heap_other (by omega)⟩,fun k c t fr hk=>by
   rw [World.putObj_heap_other (fun e=>by subst e;rw [hD] at hk;cases hk)]
   exact hk⟩
  refine ⟨by simp,.inl ⟨D,_,rfl,run_takeDeferred hD,zek Ds _ ⟨hnd.2,fun D' hD'=>⟨(hd.each D' (by simp [hD'])).1,?_⟩⟩ (fun W' hW'=>h W' ⟨hbp.bel.trans hW'.bel,fun k c t fr hk=>hW'.cel k c t fr (hbp.cel k c t fr hk)⟩)⟩⟩
  rw [World.putObj_heap_other (fun e=>hnd.1 (by rw [← e];exact hD'))]
  exact (hd.each D' (by simp [hD'])).2
theorem zhs {w w':World}{base:Nat}{e:TypeId}{m:Nat}{v:Value}{n:Nat}{xs:List Value} (h:w.ownsRow base e m v n xs) (hk:∀ (k:Nat) c,w.heap[k]?=some (.cells c e (0,0))→w'.heap[k]?=w.heap[k]?):w'.ownsRow base e m v n xs:=
 zaf h (fun g hg=>by obtain ⟨c,hc⟩:=zah h hg;exact hk g c hc)
theorem Iw.same {w w':World}{b1 base:Nat}{a:Option Addr}{c:Nat}{L:List ItX} (h:Iw w b1 base a c L) (hk:∀ (k:Nat) c t,(t=46∨t=3)→w.heap[k]?=some (.cells c t (0,0))→w'.heap[k]?=w.heap[k]?):Iw w' b1 base a c L:=
 ⟨zhs h.row (fun k c h=>hk k c _ (.inl rfl) h),fun x hx=>⟨(h.all x hx).ts,zhs (h.all x hx).ot (fun k c h=>hk k c _ (.inr rfl) h)⟩⟩
def itOf {wE:World} (i:Nat) (x:TkX wE):It:=⟨(i:Int),(tkT x).map (·.tag)⟩
def Ins (w1:World) (cb:Nat) (L:List It) (W:World):Prop:=
 ∃ ia ic N,W.heap[cb]?=some (.cells #[.slice ia N.length ic] 29 (0,0))∧Iw W w1.heap.size w1.heap.size ia ic N∧N.map Prod.fst=L∧N.Pairwise (fun x y=>Apart x.2 y.2)
theorem Ins.same {w1:World}{cb:Nat}{L:List It}{W W':World} (h:Ins w1 cb L W) (hk:∀ (k:Nat) c t fr,W.heap[k]?=some (.cells c t fr)→W'.heap[k]?=some (.cells c t fr)):Ins w1 cb L W':=by
 obtain ⟨ia,ic,N,h1,h2,h3,h4⟩:=h
 exact ⟨ia,ic,N,hk _ _ _ _ h1,h2.same (fun k c t _ h=>(hk k c t _ h).trans h.symm),h3,h4⟩
theorem Ins.bel {w1:World}{cb:Nat}{L:List It}{W W':World} (h:Ins w1 cb L W) (hb:Below W.heap.size W W'):Ins w1 cb L W':=
 h.same (fun k _ _ _ hk=>(hb.block k (zab hk)).trans hk)
structure DH (wE w1:World) (B cb:Nat) (Ds:List Nat) (L:List It) (W:World):Prop where
 ins:Ins w1 cb L W
 lk:Lko wE.heap.size B w1 W
 def':zl3 wE.heap.size Ds W
theorem DH.bel {wE w1:World}{B cb:Nat}{Ds:List Nat}{L:List It}{W W':World} (h:DH wE w1 B cb Ds L W) (hb:Below W.heap.size W W'):DH wE w1 B cb Ds L W':=
 ⟨h.ins.bel hb,h.lk.trans (Lko.of_below hb),⟨h.def'.nodup,fun D hD=>⟨(h.def'.each D hD).1,(hb.block D (Array.getElem?_eq_some_iff.1 (h.def'.each D hD).2).1).trans (h.def'.each D hD).2⟩⟩⟩
structure DI (wE w1:World) (B cb ib bb M i:Nat) (Ds:List Nat) (vp:Array Value) (L:List It) (pre:List (TkX wE)) (W:World):Prop where
 ins:Ins w1 cb (L ++ pre.map (itOf i)) W
 lk:Lko wE.heap.size B w1 W
 idx:W.heap[ib]?=some (.cells #[.int .i64 (i:Int)] 3 (0,0))
 box:W.heap[bb]?=some (.cells vp 71 (0,0))
 def':zl3 wE.heap.size Ds W
 low:∀ D∈Ds,D<M
theorem DI.own {wE w1:World}{B cb ib bb M i:Nat}{Ds:List Nat}{vp:Array Value}{L:List It} (h3:w1.heap.size≤M):OwnFrom M (DI wE w1 B cb ib bb M i Ds vp L):=by
 intro pre W W' row h hg hr
 have key:∀ k,k<W.heap.size→(k<M∨∃ c t fr,W.heap[k]?=some (.cells c t fr))→W'.heap[k]?=W.heap[k]?:=fun k hk hh=>hg.block k hk (fun e=>by
  obtain ⟨hM,o,ho,hc⟩:=hr k e.symm
  rcases hh with hh | ⟨c,t,fr,hh⟩
  ·omega
  ·rw [ho] at hh
   cases hh
   simp [Obj.isCells] at hc)
 refine ⟨h.ins.same (fun k c t fr hk=>(key k (zab hk) (.inr ⟨_,_,_,hk⟩)).trans hk),⟨hg.os.trans h.lk.os,hg.tape.trans h.lk.tape,hg.output.trans h.lk.output,Nat.le_trans h.lk.size hg.size,fun g hgl h4=>(key g (Nat.lt_of_lt_of_le hgl h.lk.size) (.inl (by omega))).trans (h.lk.block g hgl h4)⟩,(key ib (zab h.idx) (.inr ⟨_,_,_,h.idx⟩)).trans h.idx,(key bb (zab h.box) (.inr ⟨_,_,_,h.box⟩)).trans h.box,⟨h.def'.nodup,fun D hD=>⟨(h.def'.each D hD).1,?_⟩⟩,h.low⟩
 have hW:=(h.def'.each D hD).2
 exact (key D ((Array.getElem?_eq_some_iff.1 hW).1) (.inl (h.low D hD))).trans hW
theorem DI.bel {wE w1:World}{B cb ib bb M i:Nat}{Ds:List Nat}{vp:Array Value}{L:List It}{pre:List (TkX wE)}{W W':World} (h:DI wE w1 B cb ib bb M i Ds vp L pre W) (hb:Below W.heap.size W W'):DI wE w1 B cb ib bb M i Ds vp L pre W':=
 ⟨h.ins.bel hb,h.lk.trans (Lko.of_below hb),(hb.block _ (zab h.idx)).trans h.idx,(hb.block _ (zab h.box)).trans h.box,⟨h.def'.nodup,fun D hD=>⟨(h.def'.each D hD).1,(hb.block D (Array.getElem?_eq_some_iff.1 (h.def'.each D hD).2).1).trans (h.def'.each D hD).2⟩⟩,h.low⟩
theorem zkx {W W':World} (hb:Below W.heap.size W W'):KeepsOthers W W':=⟨hb.size,fun k _ hk _=>(hb.block k (Array.getElem?_eq_some_iff.1 hk).1).trans hk⟩
theorem DI.round {wE w1:World}{B cb ib bb M i:Nat}{Ds:List Nat}{vp:Array Value}{L:List It}{pre:List (TkX wE)}{W W5 W8:World}{x:TkX wE}{ia ta a8:Option Addr}{ic tc c8:Nat}{N:List ItX}{tg:List Int} (htg:tg=(tkT x).map (·.tag)) (h:DI wE w1 B cb ib bb M i Ds vp L pre W)
  (h1:W.heap[cb]?=some (.cells #[.slice ia N.length ic] 29 (0,0))) (h2:Iw W w1.heap.size w1.heap.size ia ic N) (h3:N.map Prod.fst=L ++ pre.map (itOf i)) (h4:N.Pairwise (fun x y=>Apart x.2 y.2))
  (hb:Below W.heap.size W W5) (hT:W5.ownsRow W.heap.size 3 1 (.slice ta tg.length tc) tg.length (icells tg))
  (hO:W8.ownsRow w1.heap.size 46 2 (.slice a8 (N.length+1) c8) (N.length+1) (N.flatMap zbT ++ zbT (⟨(i:Int),tg⟩,.slice ta tg.length tc))) (hg:W5.grownBy W8 (Value.slice ia N.length ic).ownBlock)
  (e1:wE.heap.size≤cb) (e2:cb<B) (e3:B≤w1.heap.size) (n1:ib≠cb) (n2:bb≠cb) :
  KeepsOthers W (W8.setCell ⟨cb,0,none⟩ (.slice a8 (N.length+1) c8))∧Kq cb w1.heap.size M W (W8.setCell ⟨cb,0,none⟩ (.slice a8 (N.length+1) c8))∧DI wE w1 B cb ib bb M i Ds vp L (pre ++ [x]) (W8.setCell ⟨cb,0,none⟩ (.slice a8 (N.length+1) c8)):=by
 subst htg
 have ht:Turned W8 (W8.setCell ⟨cb,0,none⟩ (.slice a8 (N.length+1) c8)) cb:=Turned.setCells [_] 0 W8 cb
 have R5:=h2.bel hb
 have hcb:=zab h1
 have hne:(Value.slice ia N.length ic).ownBlock≠some cb:=fun e=>by have:=(h2.row.lt cb e).1;omega
 have h8:W8.heap[cb]?=some (.cells #[.slice ia N.length ic] 29 (0,0)):=(hg.block cb (Nat.lt_of_lt_of_le hcb hb.size) (Ne.symm hne)).trans ((hb.block cb hcb).trans h1)
 have hK:Kq cb w1.heap.size M W (W8.setCell ⟨cb,0,none⟩ (.slice a8 (N.length+1) c8)):=
  ⟨(ht.os.trans hg.os).trans hb.os,(ht.tape.trans hg.tape).trans hb.tape,(ht.output.trans hg.output).trans hb.output,Nat.le_trans (Nat.le_trans hb.size hg.size) (Nat.le_of_eq ht.size.symm),fun k hk hkc hc=>by
   have hrow:some k≠(Value.slice ia N.length ic).ownBlock:=fun e=>by
    rcases hc with hc | ⟨_,hc⟩
    ·have:=(h2.row.lt k e.symm).1
     omega
    ·obtain ⟨c,hcc⟩:=zah h2.row e.symm
     exact hc c _ hcc
   exact (ht.block k hkc).trans ((hg.block k (Nat.lt_of_lt_of_le hk hb.size) hrow).trans (hb.block k hk))⟩
 have hX:ItP W5 w1.heap.size (itOf i x,.slice ta ((tkT x).map (·.tag)).length tc):=⟨⟨ta,tc,rfl⟩,zar hT h.lk.size⟩
 have h9:=Iw.snoc R5 hX hO hg
 refine ⟨(zkx hb).trans ((KeepsOthers.of_grownBy hg (fun j o hj ho=>?_)).trans (KeepsOthers.setCell _ _ _)),hK,⟨?_,hK.lko h.lk (Nat.le_refl _) e1 e2,hK.box h.idx n1 (by decide),hK.box h.box n2 (by decide),⟨h.def'.nodup,fun D hD=>⟨(h.def'.each D hD).1,?_⟩⟩,h.low⟩⟩
 ·obtain ⟨c,hc⟩:=zah R5.row hj
  rw [hc] at ho
  cases ho
  rfl
 ·refine ⟨a8,c8,N ++ [(itOf i x,.slice ta ((tkT x).map (·.tag)).length tc)],?_,?_,?_,?_⟩
  ·have h':=zad (i:=0) h8 (.slice a8 (N.length+1) c8)
   rw [List.length_append]
   simpa using h'
  ·exact h9.same (fun k c t htt hk=>ht.block k (fun e=>by subst e;rw [h8] at hk;injection hk with hk;injection hk with _ hk _;rcases htt with rfl | rfl <;> exact absurd hk (by decide)))
  ·rw [List.map_append,h3,List.map_append,List.append_assoc]
   rfl
  ·rw [List.pairwise_append]
   refine ⟨h4,by simp,fun y hy z hz=>?_⟩
   obtain rfl:=List.mem_singleton.1 hz
   intro g hgy hgz
   have i1:=((h2.all y hy).ot.lt g hgy).2
   have i2:=(hT.lt g hgz).1
   omega
 ·have hW:=(h.def'.each D hD).2
  exact (hK.block D ((Array.getElem?_eq_some_iff.1 hW).1) (fun e=>by subst e;rw [h1] at hW;cases hW) (.inr ⟨.inl (h.low D hD),fun c fr e=>by rw [hW] at e;cases e⟩)).trans hW
def TBx (wE:World) (mk:Value→Value→Act) (x:TkX wE) (a:Act) (W:World):Prop:=∃ tb,W.heap[tb]?=some (.cells #[.pointer x.1.1.1,.pointer x.1.1.2.1,.pointer x.1.1.2.2] 80 (0,0))∧a=mk (.pointer (some ⟨tb,0,none⟩)) (tkv x.1.1)
theorem TokX.below {w w':World}{p0 p1 p2:Option Addr}{T:List F} (h:TokX w p0 p1 p2 T) (hb:Below w.heap.size w w'):TokX w' p0 p1 p2 T:=⟨h.tok.below hb,h.z0,h.z1,h.z2,h.le⟩
theorem TBx.own {wE:World}{M:Nat}{mk:Value→Value→Act} (x:TkX wE) (a:Act):OwnFrom M (fun (_:Unit) W=>TBx wE mk x a W):=by
 rintro _ W W' row ⟨tb,h2,h3⟩ hg hr
 refine ⟨tb,(hg.block tb (zab h2) (fun e=>?_)).trans h2,h3⟩
 obtain ⟨_,o,ho,hc⟩:=hr tb e.symm
 rw [h2] at ho
 cases ho
 simp [Obj.isCells] at hc
theorem zi5.nil {L:List It}{w w':World} (hL:L=[]) (hb:Below w.heap.size w w'):zi5 L w (.returned (.slice none 0 0)) w':=by
 subst hL
 exact ⟨⟨none,0,[],rfl,Iw.nil _ _ _,rfl,List.Pairwise.nil⟩,hb⟩
end Go.Proofs.YtmmdlgjmplddiaaGreat
namespace Go.Proofs.YtmmdlgjmplddiaaGreat
open Go.RowKit Go.Maps
attribute [local go_sem ↓] Go.wp_at_zero Go.wp_at_succ
attribute [local go_sem] Oper.semAt_some
def CfI (rs:List Ru) (fs:List F) (a:Option Addr) (c:Nat) (fa:Option Addr) (fc:Nat) (w w0 w1:World) (cb:Nat) (xa:Option Addr) (xc:Nat) (ac:Act) (W:World):Prop:=∃ (k:Nat) (Ds:List Nat) (u6 u7 u8 u14 u15 u16 u17 u18 u19 u20 u21 u22 u23 u24 u25 u26 u27 u28 u29 u30:Value),ac={ tmps:=#[.slice a rs.length c,.slice fa fs.length fc,undef,undef,.slice none 0 0,.pointer (some ⟨cb,0,none⟩),u6,u7,u8,.slice a rs.length c,.slice fa fs.length fc,.slice xa rs.length xc,.int .i64 (rs.length:Int),.int .i64 (k:Int),u14,u15,u16,u17,u18,u19,u20,u21,u22,u23,u24,u25,u26,u27,u28,u29,u30],defers:=zkE Ds }∧k≤rs.length∧DH w w1 w0.heap.size cb Ds (za1 fs 0 (rs.take k)) W
theorem znk {X:List Cx}{r:Ru}{fs:List F} (hX:X.map Cx.cp=zax r.pats [] 0) (hk:KnR r.pats [] 0) (h3:positives r.pats≤3):zcK ((X.take X.length).map (cnOf fs)) []=exts (zax r.pats [] 0) fs []∧SrOk ((X.take X.length).map (cnOf fs)) []:=by
 rw [List.take_length]
 have hl:(X.map (cnOf fs)).length=(zax r.pats [] 0).length:=by
  rw [← hX]
  simp
 have he:∀ (k:Nat) (c:Cn) (d:Cp),(X.map (cnOf fs))[k]?=some c→(zax r.pats [] 0)[k]?=some d→CnCp fs c d:=by
  intro k c d hc hd
  rw [← hX,List.getElem?_map] at hd
  rw [List.getElem?_map] at hc
  obtain ⟨x,hx,rfl⟩:=Option.map_eq_some_iff.1 hc
  rw [hx] at hd
  cases hd
  exact zk5 fs x
 exact ⟨ziL _ _ hl he _,zfx (fs:=fs) r.pats [] [] _ hk (fun v hv=>by simp at hv) (by simp;omega) hl he⟩
theorem znt {r:Ru}{fs:List F} (hk:KnR r.pats [] 0) {wE:World}{ys:List (TkX wE)} (h:ys.map tkT=exts (zax r.pats [] 0) fs []) (i:Nat):ys.map (itOf i)=(allM r.pats fs [⟨[],[]⟩] 0).1.map (fun x=>(⟨(i:Int),x.tags⟩:It)):=by
 rw [zmy hk,← h,List.map_map,List.map_map]
 rfl
set_option maxRecDepth 100000 in
set_option maxHeartbeats 12800000 in
theorem zgX (rs:List Ru) (fs:List F) (a:Option Addr) (c:Nat) (fa:Option Addr) (fc:Nat) {q:Option Nat} (w:World) (hv:zcy q w a rs) (hc:rs.length≤c) (hle:zbs Ru.le 1048576 rs) (ho:∀ x∈rs,zd0 x.exprs) (hvo:∀ r∈rs,∀ p∈r.pats,∀ t∈p.terms,VOk t.val) (h_f:zaG w fa fs) (hl:fs.length≤1048576) (hs:∀ f∈fs,Sized f) :
  Calls Tryz.prog 7 #[.slice a rs.length c,.slice fa fs.length fc] w (zi5 (zfC rs fs) w):=by
 have HR:=hidP (fun wt (hb:Below w.heap.size w wt)=>zdO rs a c fs fa fc w wt hb (hv.below hb) hc hle ho hvo h_f hl hs)
 clear hv h_f hs hle ho hvo
 refine (callsIn_wide (n:=9)).1 ?_
 refine callsIn_of_wp_marks Tryz.func7 rfl trivial ?_ rfl
 simp only [Tryz.ntmps7,List.size_toArray,List.length_cons,List.length_nil,Nat.reduceAdd,Nat.reduceSub,Array.replicate_succ,Array.replicate_zero,List.push_toArray,List.append_toArray,List.nil_append,List.cons_append]
 refine wpIn_wide.2 ?_
 go_upto_region 2 with fail
 refine zaj ?_
 intro w0 hW0 hq0
 obtain ⟨cb,hcb⟩:∃ b,b=w.heap.size:=⟨_,rfl⟩
 rw [← hcb] at hq0 ⊢
 have CB0:=hidP hq0
 have H0:=hidP hW0
 have hcw:w.heap.size≤cb:=by omega
 have hc0:cb<w0.heap.size:=zab hq0
 clear hW0 hq0 hcb
 go_wp2_with fail
 refine (HR.out w0 H0.out).mono ?_
 rintro e w1 ⟨he1,hb1⟩
 have BW:=hidP (H0.out.trans (hb1.mono H0.out.size))
 have CB1:=hidP ((hb1.block _ hc0).trans CB0.out)
 have hs1:=hb1.size
 clear hb1 CB0 HR H0
 by_cases hrdy:ready rs fs=true
 ·rw [if_pos hrdy] at he1
  obtain ⟨xa,xc,PW,rfl,_,_,base,gb,mb,la,lc,L,bs,V,P,Q,hraw⟩:=he1
  have RAW:=hidP hraw
  have HRDY:=hidP hrdy
  clear hraw hrdy
  go_wp2_with fail
  obtain ⟨hPl,hPx⟩:=RAW.out.px
  have MEM:=hidP RAW.out.mem
  have HPX:=hidP hPx
  have hPl':P.length=rs.length:=hPl
  have HPL':=hidP hPl'
  clear hPl hPx hPl'
  have DH1:=hidP (show DH w w1 w0.heap.size cb [] (za1 fs 0 (rs.take 0)) w1 from ⟨⟨none,0,[],CB1.out,Iw.nil _ _ _,rfl,List.Pairwise.nil⟩,Lko.refl _ _ _,⟨List.nodup_nil,by simp⟩⟩)
  refine wp_loop (CfI rs fs a c fa fc w w0 w1 cb xa xc) (fun a _=>rs.length - (intOf (a.tmps.getD 13 undef)).toNat) (by unfold CfI;exact ⟨0,[],_,_,_,_,_,_,_,_,_,_,_,_,_,_,_,_,_,_,_,_,rfl,Nat.zero_le _,DH1.out⟩) ?_
  clear DH1 CB1
  rintro ac W ⟨k,Ds,u6,u7,u8,u14,u15,u16,u17,u18,u19,u20,u21,u22,u23,u24,u25,u26,u27,u28,u29,u30,rfl,hkl,hst⟩
  by_cases hk:k<rs.length
  ·obtain ⟨r,hr⟩:∃ r,rs[k]?=some r:=⟨rs[k],by simp [hk]⟩
   obtain ⟨⟨ca,cc,va,vc,X,U⟩,hP0⟩:∃ x,P[k]?=some x:=⟨P[k]'(by rw [HPL'.out];exact hk),by simp⟩
   obtain ⟨hX,hU⟩:=HPX.out k _ r hP0 hr
   simp only at hX hU
   have hxm:=List.mem_of_getElem? hP0
   have hrm:=List.mem_of_getElem? hr
   obtain ⟨g,hg,x0,x1⟩:∃ g,xa=some ⟨g,0,none⟩∧W.cell? ⟨g,k * 2,none⟩=some (.slice ca X.length cc)∧W.cell? ⟨g,k * 2+1,none⟩=some (.slice va U.length vc):=by
    have hrow:=(MEM.out W hst.lk).1.row
    obtain ⟨g,hg,_,h0,_⟩:=zam hrow (zbe (cells:=zcP) (m:=2) (fun _=>rfl) P k _ 0 _ hP0 rfl)
    obtain ⟨g',hg',_,h1,_⟩:=zam hrow (zbe (cells:=zcP) (m:=2) (fun _=>rfl) P k _ 1 _ hP0 rfl)
    rw [hg] at hg'
    cases hg'
    exact ⟨g,hg,by simpa using h0,by simpa using h1⟩
   subst hg
   obtain ⟨hck,hgf,hf40⟩:=zbE HRDY.out
   obtain ⟨hp6,ht6,hp3⟩:=zdi hck hrm
   have hkn:KnR r.pats [] 0:=zcT hck hrm
   have hl16:=zk4 hck
   have hXl:X.length≤6:=by
    have h1:=congrArg List.length hX
    rw [List.length_map,zdu] at h1
    omega
   have HX:=hidP hX
   have HKN:=hidP hkn
   have HT6:=hidP ht6
   have HXM:=hidP hxm
   have HST:=hidP hst
   have HCT:=hidP (zfD fs hr)
   obtain ⟨hE1,hE2⟩:=znk (fs:=fs) hX hkn hp3
   have HE1:=hidP hE1
   have HE2:=hidP hE2
   have HB1:=hidP (zg7 HRDY.out hrm).1
   have HB2:=hidP (zde HRDY.out k).1
   have z0:(0:Int)≤(k:Int):=by omega
   have z1:(k:Int)<(rs.length:Int):=by omega
   have z3:(k:Int)<1000000:=by omega
   clear hP0 hX hU hkn ht6 hp3 hxm hck hgf hr hrm hst hE1 hE2
   go_upto_region 5 with fail
   refine lift2P ?_
   intro w3 hW3 hq3 hq4
   obtain ⟨ib,hib⟩:∃ b,b=W.heap.size:=⟨_,rfl⟩
   obtain ⟨bb,hbb⟩:∃ b,b=ib+1:=⟨_,rfl⟩
   rw [← hib] at hq3
   rw [← hib] at hq4
   rw [← hib]
   rw [← hbb] at hq4
   (try rw [← hbb])
   obtain ⟨t0,t1⟩:=cells2P hq4
   have hW1s:=HST.out.lk.size
   have DH3:=hidP (HST.out.bel hW3)
   have IB3:=hidP hq3
   have BB3:=hidP hq4
   have hbl:bb<w3.heap.size:=zab hq4
   have hs3:=hW3.size
   have hic:ib≠cb:=by omega
   have hbc:bb≠cb:=by omega
   clear hW3 hq3 hq4 hib hbb x0 x1 HST
   go_wp2_with fail
   refine wp_region_noPanic ?_
   refine wp_region_held_drew (S:=(fun w'=>w'.cell? ⟨bb,0,none⟩=some (.slice ca X.length cc)∧w'.cell? ⟨bb,1,none⟩=some (.slice va U.length vc))) (by kernel_rfl) ?_ (fun hHeld=>?_)
   ·(try dsimp only)
    exact ⟨t0,t1⟩
   refine tk 0 hHeld ?_
   (try simp only [pA,pZ,pS])
   refine wpAnyH_ready (rs:=[1]) (by kernel_rfl) (by simp) ?_
   refine AllReadyH.cons (List.getElem?_toArray.trans rfl) (fun K hK=>?_) AllReadyH.nil
   go_simp
   (go_at_call 23;refine (zj0 _).mono ?_;rintro e' w4 ⟨rfl,hb4⟩)
   (try go_wp2_with fail)
   refine hK.out _ _ ?hS2 (fun hHeld=>?_)
   case hS2=>((try dsimp only);exact ⟨zaa hb4 t0,zaa hb4 t1⟩)
   clear hK K
   (first | simp only [pA,pZ,pS] | simp only [pN] | skip)
   have t0':=zaa hb4 t0
   have t1':=zaa hb4 t1
   refine wpAnyH_ready (rs:=[2]) (by kernel_rfl) (by simp) ?_
   refine AllReadyH.cons (List.getElem?_toArray.trans rfl) (fun K hK=>?_) AllReadyH.nil
   go_simp
   (go_at_call 22;refine (zit _ _ ca va X.length cc U.length vc rfl rfl w4).mono ?_;rintro e' w5 ⟨rfl,HPL,HSD,hb5⟩)
   (try go_wp2_with fail)
   refine hK.out _ _ ?hS4 (fun hHeld=>?_)
   case hS4=>((try dsimp only);exact ⟨zaa hb5 t0',zaa hb5 t1'⟩)
   clear hK K
   (first | simp only [pA,pZ,pS] | simp only [pN] | skip)
   refine wpAnyH_done (by kernel_rfl) ?_ _
   refine NoPanic.normal ?_
   have B35:=hidP (show Below w3.heap.size w3 w5 from (Below.refl _ _).drew.trans ((hb4.trans (hb5.mono hb4.size)).mono (by simp)))
   have hs5:=B35.out.size
   have DH5:=hidP (DH3.out.bel B35.out)
   have DI5:=hidP (show DI w w1 w0.heap.size cb ib bb w5.heap.size k Ds #[.slice ca X.length cc,.slice va U.length vc] (za1 fs 0 (rs.take k)) [] w5 from ⟨by simpa using DH5.out.ins,DH5.out.lk,(B35.out.block _ (zab IB3.out)).trans IB3.out,(B35.out.block _ (zab BB3.out)).trans BB3.out,DH5.out.def',fun D hD=>(Array.getElem?_eq_some_iff.1 (DH5.out.def'.each D hD).2).1⟩)
   have h45:w4.heap.size+1<w5.heap.size:=zab HSD.out
   have h34:w3.heap.size≤w4.heap.size:=by have:=hb4.size;simpa using this
   have hc5:cb<w5.heap.size:=by omega
   clear hb4 hb5 t0 t1 t0' t1' B35 hHeld DH3 DH5 IB3 BB3
   go_wp2_with fail
   refine (wpIn_wide (n:=9)).1 ?_
   refine wpIn_rangeFunc_ownH (α:=TkX w) rfl (by decide) (gf:=54) (lb:=#[.pointer (some ⟨w4.heap.size,0,none⟩),.pointer (some ⟨w4.heap.size+1,0,none⟩)]) rfl trivial (enters_of Tryz.func54 (by kernel_rfl) rfl)
    (znu { wE:=w,w1:=w1,B:=w0.heap.size,cb:=cb,M:=w5.heap.size,l:=0,pb:=w4.heap.size,yb:=cb+1,sb:=w4.heap.size+1,xb:=cb+1,base:=base,gb:=gb,mb:=mb,ca:=ca,cc:=cc,m:=X.length,vv:=.slice va U.length vc,va:=va,vc:=vc,la:=la,lc:=lc,L:=L,bs:=bs,V:=V,Q:=Q,X:=X,U:=U,fs:=fs,mem:=fun W hW=>⟨(MEM.out W hW).1.each _ HXM.out,(MEM.out W hW).2⟩,snd:=RAW.out.snd,facs:=RAW.out.facs,below:=BW.out,hm:=Nat.le_refl _,h1:=hcw,h2:=hc0,h3:=by omega,n1:=by omega,n2:=by omega,n3:=by omega,n4:=by omega,f40:=hf40,small:=fun c hc=>(zcF r.pats [] 0 HT6.out c.cp (by rw [← HX.out];exact List.mem_map.2 ⟨c,hc,rfl⟩)).1,X6:=hXl,h4:=hs1 } 8 w5 DI5.out.lk HPL.out HSD.out HE2.out hc5)
    (fun h k=>Kq.trans h k) (fun W l o o' h1 h2 h3 _=>Kq.putObj DI5.out.lk.size h1 h2 h3) (Below.refl _ _) (fun _=>rfl)
    (DI w w1 w0.heap.size cb ib bb w5.heap.size k Ds #[.slice ca X.length cc,.slice va U.length vc] (za1 fs 0 (rs.take k))) (fun _ _ _=>False) (DI.own DI5.out.lk.size) (fun _ _ _ _ _ hs _ _=>hs) DI5.out
    (TBx w (fun pv tv=>{ tmps:=#[.slice a rs.length c,.slice fa fs.length fc,undef,undef,.slice none 0 0,.pointer (some ⟨cb,0,none⟩),.pointer (some ⟨ib,0,none⟩),.pointer (some ⟨bb,0,none⟩),pv,.slice a rs.length c,.slice fa fs.length fc,.slice (some ⟨g,0,none⟩) rs.length xc,.int .i64 (rs.length:Int),.int .i64 (k:Int),.bool true,.int .i64 (k:Int),.pointer (some ⟨g,k * 2,none⟩),.agg #[.slice ca X.length cc,.slice va U.length vc],.agg #[.slice ca X.length cc,.slice va U.length vc],.agg #[.int .i64 (-1),.pointer none],.func (.func 54) #[] #[.pointer (some ⟨w4.heap.size,0,none⟩),.pointer (some ⟨w4.heap.size+1,0,none⟩)],tv,u22,u23,u24,u25,u26,u27,u28,u29,u30],defers:=[] })) (fun x a=>TBx.own x a) ?assign ?body ?done ?stop
   case assign=>
    rintro l pre x W' K hI hK
    simp only [tkv]
    have HI:=hidP hI
    have HKK:=hidP hK
    clear hI hK
    gi_wp2
    exact HKK.out _ _ ((KeepsOthers.alloc _ _).from _) (Kq.of_below ((Below.refl _ _).alloc (Nat.le_refl _) _)) (HI.out.bel ((Below.refl _ _).alloc (Nat.le_refl _) _)) ⟨W'.heap.size,heap_alloc_new _ _,rfl⟩
   case body=>
    rintro l pre x a' W' hlw _ hI ⟨tb,hTB,rfl⟩ hlen
    obtain ⟨ia,ic,N,i1,i2,i3,i4⟩:=hI.ins
    have hNl:N.length≤1088000:=by
     have e1:=congrArg List.length i3
     rw [List.length_map,List.length_append,List.length_map] at e1
     have e2:=HB1.out
     have e3:=HB2.out
     have e4:pre.length<(zcK ((X.take X.length).map (cnOf fs)) []).length:=hlen
     rw [HE1.out] at e4
     have e5:=congrArg List.length (zmy (fs:=fs) HKN.out)
     rw [List.length_map] at e5
     omega
    obtain ⟨tg,htg⟩:∃ l,l=(tkT x).map (·.tag):=⟨_,rfl⟩
    have HTG:=hidP (fun w' (h:Below W'.heap.size W' w')=>(show Calls Tryz.prog 24 #[.agg #[.pointer x.1.1.1,.pointer x.1.1.2.1,.pointer x.1.1.2.2]] w' (zmD tg w') by rw [htg];exact zib x.1.1.1 x.1.1.2.1 x.1.1.2.2 (tkT x) w' ((x.2.below (Lko.below BW.out BW.out.size hI.lk)).below h)))
    have RDX:=hidP (fun ta tc a8 c8 W5 W8 (hb:Below W'.heap.size W' W5) (hT:W5.ownsRow W'.heap.size 3 1 (.slice ta tg.length tc) tg.length (icells tg)) (hO:W8.ownsRow w1.heap.size 46 2 (.slice a8 (N.length+1) c8) (N.length+1) (N.flatMap zbT ++ zbT (⟨(k:Int),tg⟩,.slice ta tg.length tc))) (hg:W5.grownBy W8 (Value.slice ia N.length ic).ownBlock)=>DI.round htg hI i1 i2 i3 i4 hb hT hO hg hcw hc0 hs1 hic hbc)
    have k0:=cell1P i1
    have k1:=cell1P hI.idx
    obtain ⟨t0,t1,t2⟩:=cells3P hTB
    have R0:=hidP i2.row
    have hci:cb<W'.heap.size:=zab i1
    have hii:ib<W'.heap.size:=zab hI.idx
    have hti:tb<W'.heap.size:=zab hTB
    have hnC:(Value.slice ia N.length ic).ownBlock≠some cb:=fun e=>by obtain ⟨_,h⟩:=zah i2.row e;exact zaF h i1 (by decide)
    have hnI:(Value.slice ia N.length ic).ownBlock≠some ib:=fun e=>by obtain ⟨_,h⟩:=zah i2.row e;exact zaF h hI.idx (by decide)
    have hnT:(Value.slice ia N.length ic).ownBlock≠some tb:=fun e=>by obtain ⟨_,h⟩:=zah i2.row e;exact zaF h hTB (by decide)
    have hcI:cb≠ib:=Ne.symm hic
    have hcT:cb≠tb:=fun e=>by subst e;exact zaF i1 hTB (by decide)
    have I1:=hidP i1
    have hw1:w1.heap.size≤W'.heap.size:=hI.lk.size
    clear hI i1 i2 i3 i4 hTB hlen htg
    gi_wp2
    refine zjR (S:=(fun w'=>w'.cell? ⟨ib,0,none⟩=some (.int .i64 (k:Int))∧w'.cell? ⟨tb,0,none⟩=some (.pointer x.1.1.1)∧w'.cell? ⟨tb,1,none⟩=some (.pointer x.1.1.2.1)∧w'.cell? ⟨tb,2,none⟩=some (.pointer x.1.1.2.2))) (by rintro ⟨_,_,hh⟩;exact hh) (by intro i o ho c hc;rcases i with _ | _ | _ | _ | _ | _ | _ | _ | i <;> simp at ho <;> subst ho <;> cases hc) (by kernel_rfl) ?_ (fun hHeld=>?_)
    ·(try dsimp only)
     exact ⟨k1,t0,t1,t2⟩
    refine tk 1 hHeld ?_
    (try simp only [pA,pZ,pS])
    refine tk 2 hHeld ?_
    (try simp only [pA,pZ,pS])
    refine wpAnyH_ready (rs:=[0,3]) (by kernel_rfl) (by simp) (AllReadyH.cons (List.getElem?_toArray.trans rfl) (fun K hK=>?_) (AllReadyH.cons (List.getElem?_toArray.trans rfl) (fun K hK=>?_) AllReadyH.nil))
    ·go_simp
     refine hK.out _ _ ?hS5 (fun hHeld=>?_)
     case hS5=>((try dsimp only);exact ⟨k1,t0,t1,t2⟩)
     clear hK K
     (first | simp only [pA,pZ,pS] | simp only [pN] | skip)
     refine wpAnyH_ready (rs:=[3]) (by kernel_rfl) (by simp) (AllReadyH.cons (List.getElem?_toArray.trans rfl) (fun K hK=>?_) AllReadyH.nil)
     go_simp
     (go_at_call 24;refine (HTG.out _ (Below.refl _ _).drew).mono ?_;rintro e' w6 ⟨⟨ta,tc,rfl,hot⟩,hb6⟩)
     (try go_wp2_with fail)
     refine hK.out _ _ ?hS6 (fun hHeld=>?_)
     case hS6=>((try dsimp only);exact ⟨zaa hb6 k1,zaa hb6 t0,zaa hb6 t1,zaa hb6 t2⟩)
     clear hK K
     (first | simp only [pA,pZ,pS] | simp only [pN] | skip)
     have B6:=hidP (show Below W'.heap.size W' w6 from (Below.refl _ _).drew.trans (hb6.mono (by simp)))
     have OT6:=hidP (show w6.ownsRow W'.heap.size 3 1 (.slice ta tg.length tc) tg.length (icells tg) from hot)
     have R6:=hidP (zai R0.out B6.out)
     have Q6:=hidP ((B6.out.block cb hci).trans I1.out)
     have HW6:=hidP (fun o'=>(Below.refl _ _).alloc (Nat.le_refl _) o':∀ o',Below w6.heap.size w6 (w6.alloc o'))
     have hs6:=B6.out.size
     have hw6:w1.heap.size≤w6.heap.size:=by omega
     have k06:=zaa hb6 k0
     have k16:=zaa hb6 k1
     have t06:=zaa hb6 t0
     have t16:=zaa hb6 t1
     have t26:=zaa hb6 t2
     clear hb6 hot
     refine tk 4 hHeld ?_
     (try simp only [pA,pZ,pS])
     refine wpAnyH_ready (rs:=[5]) (by kernel_rfl) (by simp) (AllReadyH.cons (List.getElem?_toArray.trans rfl) (fun K hK=>?_) AllReadyH.nil)
     go_simp
     refine hK.out _ _ ?hS7 (fun hHeld=>?_)
     case hS7=>((try dsimp only);exact ⟨zaa (HW6.out _) k16,zaa (HW6.out _) t06,zaa (HW6.out _) t16,zaa (HW6.out _) t26⟩)
     clear hK K
     (first | simp only [pA,pZ,pS] | simp only [pN] | skip)
     refine wpAnyH_ready (rs:=[6]) (by kernel_rfl) (by simp) ?_
     refine AllReadyH.cons (List.getElem?_toArray.trans rfl) (fun K hK=>?_) AllReadyH.nil
     (refine zaq (by rfl) (.tmp 22) (.tmp 27) 29 (by rfl) w1.heap.size 46 _ 2 32 Tryz.underlying29 zie (by rfl) (by omega) _ N.length _ (by rfl) (zai R6.out (HW6.out _)) (some ⟨_,0,none⟩) 1 1 (by rfl) (zbT (⟨(k:Int),tg⟩,.slice ta tg.length tc)) (by rfl) (fun e=>by cases e) (zaw _ _ _ _ (by first | rfl | simp)) (by intro u hu;simp [zbT] at hu;rcases hu with rfl | rfl <;> rfl) (by unfold maxLen;omega) (by omega) (Nat.le_trans hw6 (HW6.out _).size) ?_;intro a8 c8 w8 ho8 hg8 hl8)
     refine hK.out _ _ ?hS9 (fun hHeld=>?_)
     case hS9=>((try dsimp only);exact ⟨(zay hg8.out hnI (by simp;omega)).trans (zaa (HW6.out _) k16),(zay hg8.out hnT (by simp;omega)).trans (zaa (HW6.out _) t06),(zay hg8.out hnT (by simp;omega)).trans (zaa (HW6.out _) t16),(zay hg8.out hnT (by simp;omega)).trans (zaa (HW6.out _) t26)⟩)
     clear hK K
     (first | simp only [pA,pZ,pS] | simp only [pN] | skip)
     have q8:w8.heap[cb]?=some (.cells #[.slice ia N.length ic] 29 (0,0)):=(hg8.out.block cb (by simp;omega) (Ne.symm hnC)).trans (((HW6.out _).block cb (by omega)).trans Q6.out)
     have k08:=cell1P q8
     have f08:w8.frozen? ⟨cb,0,none⟩=false:=by simp [World.frozen?,q8]
     have k18:=(zay hg8.out hnI (by simp;omega)).trans (zaa (HW6.out _) k16)
     have t08:=(zay hg8.out hnT (by simp;omega)).trans (zaa (HW6.out _) t06)
     have t18:=(zay hg8.out hnT (by simp;omega)).trans (zaa (HW6.out _) t16)
     have t28:=(zay hg8.out hnT (by simp;omega)).trans (zaa (HW6.out _) t26)
     refine wpAnyH_ready (rs:=[7]) (by kernel_rfl) (by simp) ?_
     refine AllReadyH.cons (List.getElem?_toArray.trans rfl) (fun K hK=>?_) AllReadyH.nil
     go_simp
     refine hK.out _ _ ?hS11 (fun hHeld=>?_)
     case hS11=>((try dsimp only);exact ⟨(World.cell?_setCell_far _ _ _ _ hcI).trans k18,(World.cell?_setCell_far _ _ _ _ hcT).trans t08,(World.cell?_setCell_far _ _ _ _ hcT).trans t18,(World.cell?_setCell_far _ _ _ _ hcT).trans t28⟩)
     clear hK K
     (first | simp only [pA,pZ,pS] | simp only [pN] | skip)
     refine wpAnyH_done (by kernel_rfl) ?_ _
     refine NoPanic.normal ?_
     have RD:=RDX.out ta tc a8 c8 _ w8 (B6.out.trans ((HW6.out _).mono B6.out.size)) (zai OT6.out (HW6.out _)) ho8.out hg8.out
     exact ⟨RD.1.from _,RD.2.1,RD.2.2⟩
    ·go_simp
     (go_at_call 24;refine (HTG.out _ (Below.refl _ _).drew).mono ?_;rintro e' w6 ⟨⟨ta,tc,rfl,hot⟩,hb6⟩)
     (try go_wp2_with fail)
     refine hK.out _ _ ?hS12 (fun hHeld=>?_)
     case hS12=>((try dsimp only);exact ⟨zaa hb6 k1,zaa hb6 t0,zaa hb6 t1,zaa hb6 t2⟩)
     clear hK K
     (first | simp only [pA,pZ,pS] | simp only [pN] | skip)
     have B6:=hidP (show Below W'.heap.size W' w6 from (Below.refl _ _).drew.trans (hb6.mono (by simp)))
     have OT6:=hidP (show w6.ownsRow W'.heap.size 3 1 (.slice ta tg.length tc) tg.length (icells tg) from hot)
     have R6:=hidP (zai R0.out B6.out)
     have Q6:=hidP ((B6.out.block cb hci).trans I1.out)
     have HW6:=hidP (fun o'=>(Below.refl _ _).alloc (Nat.le_refl _) o':∀ o',Below w6.heap.size w6 (w6.alloc o'))
     have hs6:=B6.out.size
     have hw6:w1.heap.size≤w6.heap.size:=by omega
     have k06:=zaa hb6 k0
     have k16:=zaa hb6 k1
     have t06:=zaa hb6 t0
     have t16:=zaa hb6 t1
     have t26:=zaa hb6 t2
     clear hb6 hot
     refine tk 4 hHeld ?_
     (try simp only [pA,pZ,pS])
     refine wpAnyH_ready (rs:=[0,5]) (by kernel_rfl) (by simp) (AllReadyH.cons (List.getElem?_toArray.trans rfl) (fun K hK=>?_) (AllReadyH.cons (List.getElem?_toArray.trans rfl) (fun K hK=>?_) AllReadyH.nil))
     ·go_simp
      refine hK.out _ _ ?hS13 (fun hHeld=>?_)
      case hS13=>((try dsimp only);exact ⟨k16,t06,t16,t26⟩)
      clear hK K
      (first | simp only [pA,pZ,pS] | simp only [pN] | skip)
      refine wpAnyH_ready (rs:=[5]) (by kernel_rfl) (by simp) (AllReadyH.cons (List.getElem?_toArray.trans rfl) (fun K hK=>?_) AllReadyH.nil)
      go_simp
      refine hK.out _ _ ?hS14 (fun hHeld=>?_)
      case hS14=>((try dsimp only);exact ⟨zaa (HW6.out _) k16,zaa (HW6.out _) t06,zaa (HW6.out _) t16,zaa (HW6.out _) t26⟩)
      clear hK K
      (first | simp only [pA,pZ,pS] | simp only [pN] | skip)
      refine wpAnyH_ready (rs:=[6]) (by kernel_rfl) (by simp) ?_
      refine AllReadyH.cons (List.getElem?_toArray.trans rfl) (fun K hK=>?_) AllReadyH.nil
      (refine zaq (by rfl) (.tmp 22) (.tmp 27) 29 (by rfl) w1.heap.size 46 _ 2 32 Tryz.underlying29 zie (by rfl) (by omega) _ N.length _ (by rfl) (zai R6.out (HW6.out _)) (some ⟨_,0,none⟩) 1 1 (by rfl) (zbT (⟨(k:Int),tg⟩,.slice ta tg.length tc)) (by rfl) (fun e=>by cases e) (zaw _ _ _ _ (by first | rfl | simp)) (by intro u hu;simp [zbT] at hu;rcases hu with rfl | rfl <;> rfl) (by unfold maxLen;omega) (by omega) (Nat.le_trans hw6 (HW6.out _).size) ?_;intro a8 c8 w8 ho8 hg8 hl8)
      refine hK.out _ _ ?hS16 (fun hHeld=>?_)
      case hS16=>((try dsimp only);exact ⟨(zay hg8.out hnI (by simp;omega)).trans (zaa (HW6.out _) k16),(zay hg8.out hnT (by simp;omega)).trans (zaa (HW6.out _) t06),(zay hg8.out hnT (by simp;omega)).trans (zaa (HW6.out _) t16),(zay hg8.out hnT (by simp;omega)).trans (zaa (HW6.out _) t26)⟩)
      clear hK K
      (first | simp only [pA,pZ,pS] | simp only [pN] | skip)
      have q8:w8.heap[cb]?=some (.cells #[.slice ia N.length ic] 29 (0,0)):=(hg8.out.block cb (by simp;omega) (Ne.symm hnC)).trans (((HW6.out _).block cb (by omega)).trans Q6.out)
      have k08:=cell1P q8
      have f08:w8.frozen? ⟨cb,0,none⟩=false:=by simp [World.frozen?,q8]
      have k18:=(zay hg8.out hnI (by simp;omega)).trans (zaa (HW6.out _) k16)
      have t08:=(zay hg8.out hnT (by simp;omega)).trans (zaa (HW6.out _) t06)
      have t18:=(zay hg8.out hnT (by simp;omega)).trans (zaa (HW6.out _) t16)
      have t28:=(zay hg8.out hnT (by simp;omega)).trans (zaa (HW6.out _) t26)
      refine wpAnyH_ready (rs:=[7]) (by kernel_rfl) (by simp) ?_
      refine AllReadyH.cons (List.getElem?_toArray.trans rfl) (fun K hK=>?_) AllReadyH.nil
      go_simp
      refine hK.out _ _ ?hS18 (fun hHeld=>?_)
      case hS18=>((try dsimp only);exact ⟨(World.cell?_setCell_far _ _ _ _ hcI).trans k18,(World.cell?_setCell_far _ _ _ _ hcT).trans t08,(World.cell?_setCell_far _ _ _ _ hcT).trans t18,(World.cell?_setCell_far _ _ _ _ hcT).trans t28⟩)
      clear hK K
      (first | simp only [pA,pZ,pS] | simp only [pN] | skip)
      refine wpAnyH_done (by kernel_rfl) ?_ _
      refine NoPanic.normal ?_
      have RD:=RDX.out ta tc a8 c8 _ w8 (B6.out.trans ((HW6.out _).mono B6.out.size)) (zai OT6.out (HW6.out _)) ho8.out hg8.out
      exact ⟨RD.1.from _,RD.2.1,RD.2.2⟩
     ·go_simp
      refine hK.out _ _ ?hS19 (fun hHeld=>?_)
      case hS19=>((try dsimp only);exact ⟨zaa (HW6.out _) k16,zaa (HW6.out _) t06,zaa (HW6.out _) t16,zaa (HW6.out _) t26⟩)
      clear hK K
      (first | simp only [pA,pZ,pS] | simp only [pN] | skip)
      refine wpAnyH_ready (rs:=[0]) (by kernel_rfl) (by simp) (AllReadyH.cons (List.getElem?_toArray.trans rfl) (fun K hK=>?_) AllReadyH.nil)
      have k07:=fun o=>zaa (HW6.out o) k06
      go_simp
      refine hK.out _ _ ?hS20 (fun hHeld=>?_)
      case hS20=>((try dsimp only);exact ⟨zaa (HW6.out _) k16,zaa (HW6.out _) t06,zaa (HW6.out _) t16,zaa (HW6.out _) t26⟩)
      clear hK K
      (first | simp only [pA,pZ,pS] | simp only [pN] | skip)
      refine wpAnyH_ready (rs:=[6]) (by kernel_rfl) (by simp) ?_
      refine AllReadyH.cons (List.getElem?_toArray.trans rfl) (fun K hK=>?_) AllReadyH.nil
      (refine zaq (by rfl) (.tmp 22) (.tmp 27) 29 (by rfl) w1.heap.size 46 _ 2 32 Tryz.underlying29 zie (by rfl) (by omega) _ N.length _ (by rfl) (zai R6.out (HW6.out _)) (some ⟨_,0,none⟩) 1 1 (by rfl) (zbT (⟨(k:Int),tg⟩,.slice ta tg.length tc)) (by rfl) (fun e=>by cases e) (zaw _ _ _ _ (by first | rfl | simp)) (by intro u hu;simp [zbT] at hu;rcases hu with rfl | rfl <;> rfl) (by unfold maxLen;omega) (by omega) (Nat.le_trans hw6 (HW6.out _).size) ?_;intro a8 c8 w8 ho8 hg8 hl8)
      refine hK.out _ _ ?hS22 (fun hHeld=>?_)
      case hS22=>((try dsimp only);exact ⟨(zay hg8.out hnI (by simp;omega)).trans (zaa (HW6.out _) k16),(zay hg8.out hnT (by simp;omega)).trans (zaa (HW6.out _) t06),(zay hg8.out hnT (by simp;omega)).trans (zaa (HW6.out _) t16),(zay hg8.out hnT (by simp;omega)).trans (zaa (HW6.out _) t26)⟩)
      clear hK K
      (first | simp only [pA,pZ,pS] | simp only [pN] | skip)
      have q8:w8.heap[cb]?=some (.cells #[.slice ia N.length ic] 29 (0,0)):=(hg8.out.block cb (by simp;omega) (Ne.symm hnC)).trans (((HW6.out _).block cb (by omega)).trans Q6.out)
      have k08:=cell1P q8
      have f08:w8.frozen? ⟨cb,0,none⟩=false:=by simp [World.frozen?,q8]
      have k18:=(zay hg8.out hnI (by simp;omega)).trans (zaa (HW6.out _) k16)
      have t08:=(zay hg8.out hnT (by simp;omega)).trans (zaa (HW6.out _) t06)
      have t18:=(zay hg8.out hnT (by simp;omega)).trans (zaa (HW6.out _) t16)
      have t28:=(zay hg8.out hnT (by simp;omega)).trans (zaa (HW6.out _) t26)
      refine wpAnyH_ready (rs:=[7]) (by kernel_rfl) (by simp) ?_
      refine AllReadyH.cons (List.getElem?_toArray.trans rfl) (fun K hK=>?_) AllReadyH.nil
      go_simp
      refine hK.out _ _ ?hS24 (fun hHeld=>?_)
      case hS24=>((try dsimp only);exact ⟨(World.cell?_setCell_far _ _ _ _ hcI).trans k18,(World.cell?_setCell_far _ _ _ _ hcT).trans t08,(World.cell?_setCell_far _ _ _ _ hcT).trans t18,(World.cell?_setCell_far _ _ _ _ hcT).trans t28⟩)
      clear hK K
      (first | simp only [pA,pZ,pS] | simp only [pN] | skip)
      refine wpAnyH_done (by kernel_rfl) ?_ _
      refine NoPanic.normal ?_
      have RD:=RDX.out ta tc a8 c8 _ w8 (B6.out.trans ((HW6.out _).mono B6.out.size)) (zai OT6.out (HW6.out _)) ho8.out hg8.out
      exact ⟨RD.1.from _,RD.2.1,RD.2.2⟩
   case done=>
    rintro D ys W' hD hS hI hK
    have HI:=hidP hI
    have HK:=hidP hK
    have HS:=hidP (znt HKN.out (hS.trans HE1.out) k)
    clear hS hI hK
    go_wp2_with fail
    refine ⟨?_,by simp [intOf];omega⟩
    unfold CfI
    refine ⟨k+1,D :: Ds,_,_,_,_,_,_,_,_,_,_,_,_,_,_,_,_,_,_,_,_,by rw [zne];rfl,by omega,⟨?_,HI.out.lk,⟨List.nodup_cons.2 ⟨fun hm=>?_,HI.out.def'.nodup⟩,fun D' hD'=>?_⟩⟩⟩
    ·rw [HCT.out,← HS.out]
     exact HI.out.ins
    ·have:=HI.out.low D hm
     omega
    ·rcases List.mem_cons.1 hD' with rfl | hD'
     ·exact ⟨by omega,HK.out⟩
     ·exact HI.out.def'.each D' hD'
   case stop=>
    rintro D c pre W _ _ h _
    exact h.elim
  ·have hke:k=rs.length:=by omega
   have hy:¬ (k:Int)<(rs.length:Int):=by omega
   obtain ⟨ia,ic,N,i1,i2,i3,i4⟩:=hst.ins
   have k0:=cell1P i1
   have HDF:=hidP hst.def'
   have HBW:=hidP (Lko.below BW.out BW.out.size hst.lk)
   have HIO:=hidP i2
   have HN:=hidP (show N.map Prod.fst=zfC rs fs by rw [i3,hke,List.take_length];exact (if_pos HRDY.out).symm)
   have HPW:=hidP i4
   have hbw1:=BW.out.size
   clear hke i1 i2 i3 i4 hst
   go_wp2_with fail
   refine zek (B:=w.heap.size) Ds _ HDF.out ?_
   intro W' hW'
   refine ⟨_,results_tmp rfl _ _ _,?_⟩
   exact ⟨⟨ia,ic,N,rfl,(HIO.out.lower hbw1 hbw1).same (fun k c t _ h=>(hW'.cel k c t _ h).trans h.symm),HN.out,HPW.out⟩,HBW.out.trans hW'.bel⟩
 ·rw [if_neg hrdy] at he1
  subst he1
  have HT:=hidP (show zfC rs fs=[] by unfold zfC;rw [if_neg hrdy])
  clear hrdy
  go_wp2_with fail
  go_loopw [13] (fun iv wr=>iv=.int .i64 0∧wr=w1) (fun _ _=>0)
  case atStart=>exact ⟨rfl,rfl⟩
  case round=>
   obtain ⟨rfl,rfl⟩:=hrel
   have k0:=cell1P CB1.out
   go_wp2_with fail
   refine zek (B:=w.heap.size) [] _ ⟨List.nodup_nil,by simp⟩ ?_
   intro W' hW'
   refine ⟨_,results_tmp rfl _ _ _,?_⟩
   exact zi5.nil HT.out (BW.out.trans hW'.bel)
end Go.Proofs.YtmmdlgjmplddiaaGreat
namespace Go.Proofs.YtmmdlgjmplddiaaGreat
open Go.RowKit
attribute [local go_sem ↓] Go.wp_at_zero Go.wp_at_succ
theorem hidH {p:Prop} (h:p):Hid p:=h
theorem zmZ {xs ys:List Int}{i:Nat}{x y:Int} (hx:xs[i]?=some x) (hy:ys[i]?=some y) (hne:x≠y):xs≠ys:=fun e=>by
 subst e
 rw [hx] at hy
 injection hy with hy
 exact hne hy
set_option maxHeartbeats 1600000 in
theorem zhl (xs ys:List Int) (a b:Option Addr) (ca cb:Nat) (w:World) (hx:zaU none w a xs) (hy:zaU none w b ys) (hl:xs.length≤1048576):Calls Tryz.prog 26 #[.slice a xs.length ca,.slice b ys.length cb] w fun e w'=>e=.returned (.bool (decide (xs=ys)))∧Below w.heap.size w w':=by
 by_cases hll:xs.length=ys.length
 rotate_left
 ·have hI:((xs.length:Int)==(ys.length:Int))=false:=by simp;omega
  have hne:decide (xs=ys)=false:=decide_eq_false fun e=>hll (by rw [e])
  rw [hne]
  clear hx hy
  go_enter Tryz.func26,Tryz.ntmps26
  go_wp2_with fail
  go_ret
  exact ⟨rfl,Below.refl _ _⟩
 have HX:=hidH hx
 have HY:=hidH hy
 clear hx hy
 have hI:((xs.length:Int)==(ys.length:Int))=true:=by simp;omega
 go_enter Tryz.func26,Tryz.ntmps26
 go_wp2_with fail
 go_loopw [13] (fun iv wr=>∃ i:Nat,iv=.int .i64 (i:Int)∧i≤xs.length∧xs.take i=ys.take i∧Below w.heap.size w wr) (fun iv _=>((xs.length:Int) - intOf iv).toNat)
 case atStart=>exact ⟨0,rfl,by omega,by simp,Below.refl _ _⟩
 case round=>
  obtain ⟨i,rfl,hil,hpre,hb⟩:=hrel
  have HP:=hidH hpre
  have HB:=hidH hb
  clear hpre hb
  by_cases hi:i<xs.length
  ·have hiI:(i:Int)<(xs.length:Int):=by omega
   have hiJ:(i:Int)<(ys.length:Int):=by omega
   have hi0:(0:Int)≤(i:Int):=by omega
   obtain ⟨x,hx⟩:∃ x,xs[i]?=some x:=⟨xs[i],by simp [hi]⟩
   obtain ⟨y,hy⟩:∃ y,ys[i]?=some y:=⟨ys[i]'(by omega),by simp⟩
   obtain ⟨xb,xo,rfl,_,c0⟩:=(HX.out.below HB.out).get hx
   obtain ⟨yb,yo,rfl,_,c1⟩:=(HY.out.below HB.out).get hy
   have hxy:=hidH (And.intro hx hy)
   clear hx hy
   cases he:(x==y)
   ·go_wp2_with fail
    go_region
    go_wp2_with fail
    go_ret
    refine ⟨?_,HB.out.drew⟩
    have:xs≠ys:=zmZ hxy.out.1 hxy.out.2 (by simpa using he)
    simp [this]
   ·go_wp2_with fail
    go_region
    go_wp2_with fail
    go_roundw
    case rel=>
     have e:x=y:=by simpa using he
     exact ⟨i+1,by go_num,by omega,by rw [List.take_add_one,List.take_add_one,hxy.out.1,hxy.out.2,HP.out,e],HB.out.drew⟩
    case measure=>(simp [intOf];omega)
  ·have hiI:¬ (i:Int)<(xs.length:Int):=by omega
   go_wp2_with fail
   go_ret
   refine ⟨?_,HB.out⟩
   have h1:xs=ys:=by
    have:=HP.out
    rwa [List.take_of_length_le (by omega),List.take_of_length_le (by omega)] at this
   simp [h1]
set_option maxHeartbeats 800000 in
theorem zeo (x y:It) (a b:Option Addr) (ca cb:Nat) (w:World) (hx:zaU none w a x.tags) (hy:zaU none w b y.tags) (hl:x.tags.length≤1048576):Calls Tryz.prog 9 #[.agg #[.int .i64 x.rule,.slice a x.tags.length ca],.agg #[.int .i64 y.rule,.slice b y.tags.length cb]] w fun e w'=>e=.returned (.bool (decide (x.rule=y.rule∧x.tags=y.tags)))∧Below w.heap.size w w':=by
 have HX:=hidH hx
 have HY:=hidH hy
 clear hx hy
 have HA:=hidH (fun o o'=>((Below.refl _ _).alloc (Nat.le_refl _) o).alloc (by simp) o':∀ o o',Below w.heap.size w ((w.alloc o).alloc o'))
 cases hr:(x.rule==y.rule)
 ·have e:decide (x.rule=y.rule∧x.tags=y.tags)=false:=decide_eq_false fun h=>by simp [h.1] at hr
  rw [e]
  go_enter Tryz.func9,Tryz.ntmps9
  go_wp2_with fail
  go_ret
  exact ⟨rfl,HA.out _ _⟩
 ·have e0:x.rule=y.rule:=by simpa using hr
  have e:decide (x.rule=y.rule∧x.tags=y.tags)=decide (x.tags=y.tags):=by simp [e0]
  rw [e]
  clear e e0
  go_enter Tryz.func9,Tryz.ntmps9
  go_wp2_with fail
  refine (zhl x.tags y.tags a b ca cb _ (HX.out.below (HA.out _ _)) (HY.out.below (HA.out _ _)) hl).mono ?_
  rintro e w1 ⟨rfl,hb1⟩
  have B1:=hidH ((HA.out _ _).trans (hb1.mono (by simp;omega)))
  clear hb1
  go_wp2_with fail
  go_ret
  exact ⟨rfl,B1.out⟩
end Go.Proofs.YtmmdlgjmplddiaaGreat
namespace Go.Proofs.YtmmdlgjmplddiaaGreat
open Go.RowKit
attribute [local go_sem ↓] Go.wp_at_zero Go.wp_at_succ
theorem zlI:(Tryz.prog.info? 3).map (fun i=>(i.zero,i.size,i.bytes))=some (some (.int .i64 0),1,8):=by kernel_rfl
theorem mz0:madeCells #[.int .i64 0] 0=(List.replicate 0 (.int .i64 0)).toArray:=by kernel_rfl
theorem mz1:madeCells #[.int .i64 0] 1=(List.replicate 1 (.int .i64 0)).toArray:=by kernel_rfl
theorem mz2:madeCells #[.int .i64 0] 2=(List.replicate 2 (.int .i64 0)).toArray:=by kernel_rfl
theorem mz3:madeCells #[.int .i64 0] 3=(List.replicate 3 (.int .i64 0)).toArray:=by kernel_rfl
theorem zl5 (n:Nat) (hn:n≤3):madeCells #[.int .i64 0] n=(List.replicate n (.int .i64 0)).toArray:=by
 have:n=0∨n=1∨n=2∨n=3:=by omega
 rcases this with rfl | rfl | rfl | rfl
 ·exact mz0
 ·exact mz1
 ·exact mz2
 ·exact mz3
theorem mkK (n:Nat) (hn:n≤3) (w:World):(Instr.makeSlice 39 (.int .i64 (n:Int)) (.int .i64 (n:Int))).run Tryz.prog w=.ok (.slice (some ⟨w.heap.size,0,none⟩) n n) (w.alloc (.cells (List.replicate n (.int .i64 0)).toArray 3)):=by
 rw [← zl5 n hn]
 exact run_make_row' (P:=Tryz.prog) 39 3 (.int .i64 0) 8 Tryz.underlying39 zlI rfl .i64 .i64 n (by omega) (by omega) w
theorem zbH {w:World}{b o:Nat}{v:Value} (h:w.cell? ⟨b,o,none⟩=some v):b<w.heap.size:=World.block_lt_of_cell? w ⟨b,o,none⟩ h
theorem cells5H {w:World}{b:Nat}{ty:TypeId}{x0 x1 x2 x3 x4:Value} (h:w.heap[b]?=some (.cells #[x0,x1,x2,x3,x4] ty (0,0))):w.cell? ⟨b,0,none⟩=some x0∧w.cell? ⟨b,1,none⟩=some x1∧w.cell? ⟨b,2,none⟩=some x2∧w.cell? ⟨b,3,none⟩=some x3∧w.cell? ⟨b,4,none⟩=some x4:=by
 refine ⟨?_,?_,?_,?_,?_⟩ <;> simp [World.cell?,h]
theorem cells3H {w:World}{b:Nat}{ty:TypeId}{x0 x1 x2:Value} (h:w.heap[b]?=some (.cells #[x0,x1,x2] ty (0,0))):w.cell? ⟨b,0,none⟩=some x0:=by simp [World.cell?,h]
theorem zkP {l:List Pt}{j:Nat}{p:Pt} (h:l[j]?=some p):positives (l.take (j+1))=positives (l.take j)+(if p.neg then 0 else 1):=by
 unfold positives
 rw [List.take_add_one,h,List.countP_append]
 cases hn:p.neg <;> simp [pos1,hn]
theorem zhe {l t:Nat} (hl:l≤5) (ht:t≤3):l ^ t≤125:=Nat.le_trans (Nat.pow_le_pow_left hl t) (Nat.pow_le_pow_right (n:=5) (by omega) ht)
def tcells (t:List Int) (m:Nat):List Value:=List.replicate m (.int .i64 0) ++ (t.drop m).map (Value.int .i64)
theorem zk2 (t:List Int) (q:Nat):(tcells t (q+1))[q]?=some (.int .i64 0):=by
 unfold tcells
 rw [List.getElem?_append_left (by simp),List.getElem?_replicate,if_pos (by omega)]
theorem zjy {t:List Int}{m:Nat}{x:Int} (h:t[m]?=some x):(tcells t (m+1)).set m (.int .i64 x)=tcells t m:=by
 have hm:=(List.getElem?_eq_some_iff.1 h).1
 have hx:=(List.getElem?_eq_some_iff.1 h).2
 unfold tcells
 rw [List.replicate_succ',List.append_assoc,List.set_append_right _ _ (by simp),List.length_replicate,Nat.sub_self,List.drop_eq_getElem_cons hm,hx]
 rfl
theorem zkT {rs:List Ru}{fs:List F}{i j:Nat}{r:Ru} (hk:(chk rs).1=0) (hg:zaS fs=true) (hr:rs[i]?=some r):before rs fs i j r≤(za1 fs 0 rs).length:=by
 rw [zf7 hk hg hr]
 unfold before
 have h:=(List.Sublist.filter (za3 r fs) (List.take_sublist j (zcR fs (positives r.pats)))).length_le
 simp only [List.length_append,List.length_map]
 omega
theorem zj6 {w:World}{b:Nat}{t:List Int}{ty:TypeId}{fr:Nat × Nat} (h:w.heap[b]?=some (.cells (tcells t 0).toArray ty fr)):zaU none w (some ⟨b,0,none⟩) t:=by
 intro i x hx
 refine ⟨b,0,[.int .i64 x],rfl,Qb.bare _ _ _,rfl,fun j v hj=>?_,rfl⟩
 have hj0:j=0:=by
  have:=(List.getElem?_eq_some_iff.1 hj).1
  simp at this
  exact this
 subst hj0
 simp at hj
 subst hj
 simp [World.cell?,h,tcells,hx]
structure MH (u:World) (sb:Nat) (ra fa xa:Option Addr) (fc:Nat) (rs:List Ru) (fs:List F) (C:List It):Prop where
 sb:u.cell? ⟨sb,0,none⟩=some (.slice fa fs.length fc)
 rus:zcy none u ra rs
 fcs:zaG u fa fs
 its:zkC u xa C
theorem MH.below {u v:World}{sb:Nat}{ra fa xa:Option Addr}{fc:Nat}{rs:List Ru}{fs:List F}{C:List It} (h:MH u sb ra fa xa fc rs fs C) (hb:Below u.heap.size u v):MH v sb ra fa xa fc rs fs C:=
 ⟨zaa hb h.sb,h.rus.below hb,h.fcs.below hb,h.its.below hb⟩
set_option maxRecDepth 100000 in
set_option maxHeartbeats 12800000 in
theorem zk8 (a:Option Addr) (n c:Nat) (w:World) (h:ByA w a n):Calls Tryz.prog 3 #[.slice a n c] w fun e w'=>e=.returned (.bool true)∧Below w.heap.size w w':=by
 by_cases hn:n≤1048576
 rotate_left
 ·have hnI:(1048576:Int)<(n:Int):=by omega
  clear h
  go_enter Tryz.func3,Tryz.ntmps3
  go_wp2_with fail
  go_ret
  exact ⟨rfl,Below.refl _ _⟩
 have hnI:¬ (1048576:Int)<(n:Int):=by omega
 have HD:=hidH (zgB a n c 5 w h hn (by omega))
 clear h
 go_enter Tryz.func3,Tryz.ntmps3
 go_wp2_with fail
 refine HD.out.mono ?_
 rintro e w1 ⟨ra,rc,rs,fa,fc,fs,nx,cp,sg,rfl,hRS,hFS,hru,hrc,hfa,hfc,hb1⟩
 have RS:=hidH hRS
 have FSo:=hidH hFS
 have RU1:=hidH hru
 have FA1:=hidH hfa
 have B1:=hidH hb1
 have hs1:=hb1.size
 have hr8:=hRS.len.2
 have hf5:=hFS.len
 have HCK:=hidH (show (chk rs).1=0 by rw [hRS.chk])
 clear hRS hFS hru hfa hb1 HD
 unfold stV
 go_upto_region 4 with fail
 refine zaj ?_
 intro w2 hW2 hsb
 have SB2:=hidH (show TB w2 w1.heap.size fa fs.length fc nx cp sg from hsb)
 have RU2:=hidH (RU1.out.below hW2)
 have FA2:=hidH (FA1.out.below hW2)
 have B2:=hidH (B1.out.trans (hW2.mono hs1))
 have hs2:=hW2.size
 obtain ⟨⟨s0,s1,s2,s3⟩,_,hsbl⟩:=SB2.out.facts
 clear hW2 hsb RU1 FA1 B1
 go_wp2_with fail
 refine (zgX rs fs ra rc fa fc w2 RU2.out hrc RS.out.le RS.out.ops RS.out.vok FA2.out (by omega) FSo.out.sized).mono ?_
 rintro e w3 ⟨⟨xa,xc,X,rfl,hIO,hXm,_⟩,hb3⟩
 have hcf:zfC rs fs=za1 fs 0 rs:=by
  unfold zfC
  exact if_pos (by simp [ready,HCK.out,FSo.out.good])
 obtain ⟨C,hC⟩:∃ C,C=za1 fs 0 rs:=⟨_,rfl⟩
 have HC:=hidH hC
 have hXC:X.length=C.length:=by rw [hC,← hcf,← hXm];simp
 have hCl:C.length≤1024000:=by have:=(zgh rs fs).1;rw [hcf,← hC] at this;exact this
 have MH3:=hidH (show MH w3 w1.heap.size ra fa xa fc rs fs C from ⟨zaa hb3 s0,RU2.out.below hb3,FA2.out.below hb3,by have:=hIO.at;rw [hXm,hcf,← hC] at this;exact this⟩)
 have B3:=hidH (B2.out.trans (hb3.mono (by omega)))
 have hs3:=hb3.size
 rw [hXC]
 clear hb3 hIO hXm hXC hcf hC s0 s1 s2 s3 SB2 RU2 FA2 B2
 go_wp2_with fail
 go_loopw [6,34] (fun nv iv wr=>∃ i:Nat,iv=.int .i64 (i:Int)∧i≤rs.length∧nv=.int .i64 (((za1 fs 0 (rs.take i)).length:Nat):Int)∧Below w3.heap.size w3 wr) (fun _ iv _=>(20 - intOf iv).toNat)
 case atStart=>exact ⟨0,rfl,by omega,rfl,Below.refl _ _⟩
 case round=>
  obtain ⟨i,rfl,hir,rfl,hbr⟩:=hrel
  have BR:=hidH hbr
  have hsr:=hbr.size
  clear hbr
  obtain ⟨P0,hP0⟩:∃ P0,P0=(za1 fs 0 (rs.take i)).length:=⟨_,rfl⟩
  by_cases hi:i<rs.length
  ·have hiI:(i:Int)<(rs.length:Int):=by omega
   have hi0:(0:Int)≤(i:Int):=by omega
   obtain ⟨r,hri⟩:∃ r,rs[i]?=some r:=⟨rs[i],by simp [hi]⟩
   have hP:P0=before rs fs i 0 r:=by rw [hP0];simp [before]
   have HP:=hidH hP
   rw [← hP0]
   obtain ⟨rb,ro,pa,pc,ea,ec,xa',xc',rfl,_,c0,c1,c2,c3,c4,hpt,hex,hac,hce⟩:=(MH3.out.below BR.out).rus.get hri
   have hrbl:=zbH c0
   have PT:=hidH hpt
   have EX:=hidH hex
   have AC:=hidH hac
   have HRI:=hidH hri
   have hck1:=(zeP HCK.out).2 r (List.mem_of_getElem? hri)
   have hp6:r.pats.length≤6:=(zem hck1.1).1
   have hK3:positives r.pats≤3:=hck1.2
   clear hri hpt hex hac hP0 hP hck1
   go_upto_region 9 with fail
   refine zaj ?_
   intro w4 hW4 hqb
   have QB4:=hidH (cells5H hqb)
   have B4:=hidH (BR.out.trans (hW4.mono hsr))
   have PT4:=hidH (PT.out.below hW4)
   have EX4:=hidH (EX.out.below hW4)
   have AC4:=hidH (AC.out.below hW4)
   have hs4:=hW4.size
   have hql:wr.heap.size<w4.heap.size:=zab hqb
   clear hW4 hqb c0 c1 c2 c3 c4 PT EX AC BR
   have q2:=QB4.out.2.2.1
   go_wp2_with fail
   clear q2
   go_loopw [9,42] (fun kv tv wr=>∃ t:Nat,tv=.int .i64 (t:Int)∧t≤r.pats.length∧kv=.int .i64 ((positives (r.pats.take t):Nat):Int)∧Below w4.heap.size w4 wr) (fun _ tv _=>(20 - intOf tv).toNat)
   case atStart=>exact ⟨0,rfl,by omega,rfl,Below.refl _ _⟩
   case round=>
    obtain ⟨wt,rfl⟩:∃ v,v=wr:=⟨wr,rfl⟩
    obtain ⟨t,rfl,htr,rfl,hbt⟩:=hrel
    have BT:=hidH hbt
    have hst:=hbt.size
    clear hbt
    obtain ⟨K,hK⟩:∃ K,K=positives (r.pats.take t):=⟨_,rfl⟩
    have hK6:K≤6:=by
     have h1:K≤(r.pats.take t).length:=by rw [hK];exact List.countP_le_length
     have h2:=List.length_take_le t r.pats
     omega
    have HK:=hidH hK
    by_cases ht:t<r.pats.length
    ·have htI:(t:Int)<(r.pats.length:Int):=by omega
     have ht0:(0:Int)≤(t:Int):=by omega
     obtain ⟨p,hpt⟩:∃ p,r.pats[t]?=some p:=⟨r.pats[t],by simp [ht]⟩
     have HPT:=hidH (zkP hpt)
     rw [← hK] at HPT ⊢
     clear hK
     obtain ⟨pb,po,ta,tc,rfl,_,c0,c1,c2,_⟩:=(PT4.out.below BT.out).get hpt
     have hpbl:=zbH c0
     clear hpt
     go_upto_region 13 with fail
     refine zaj ?_
     intro w5 hW5 hpx
     have p0:=cells3H hpx
     have B5:=hidH (BT.out.trans (hW5.mono hst))
     have hpxl:wt.heap.size<w5.heap.size:=zab hpx
     clear hW5 hpx c0 c1 c2 BT
     cases hng:p.neg
     ·rw [hng] at p0
      go_wp2_with fail
      go_roundw
      case rel=>exact ⟨t+1,by go_num,by omega,by rw [HPT.out,hng];simp,B5.out⟩
      case measure=>(simp [intOf];omega)
     ·rw [hng] at p0
      go_wp2_with fail
      go_roundw
      case rel=>exact ⟨t+1,by go_num,by omega,by rw [HPT.out,hng];simp,B5.out⟩
      case measure=>(simp [intOf];omega)
    ·have htI:¬ (t:Int)<(r.pats.length:Int):=by omega
     have hKE:K=positives r.pats:=by rw [hK,List.take_of_length_le (by omega)]
     rw [← hK]
     have HKE:=hidH hKE
     have hK3':K≤3:=by omega
     clear hK hKE
     obtain ⟨l,hl⟩:∃ l,l=fs.length:=⟨_,rfl⟩
     have HL:=hidH hl
     have hl5:l≤5:=by omega
     have MHt:=hidH ((MH3.out.below B4.out).below BT.out)
     have s0:=MHt.out.sb
     have hsl:=zbH s0
     rw [← hl] at s0
     clear hl
     go_wp2_with fail
     go_loopw [12,13] (fun av tv wr=>∃ u A:Nat,tv=.int .i64 (u:Int)∧u≤K∧av=.int .i64 (A:Int)∧A=l ^ u∧wr=wt) (fun _ tv _=>(20 - intOf tv).toNat)
     case atStart=>exact ⟨0,1,rfl,by omega,rfl,rfl,rfl⟩
     case round=>
      obtain ⟨u,A,rfl,huK,rfl,hA,rfl⟩:=hrel
      obtain ⟨wt,rfl⟩:∃ v,v=wr:=⟨wr,rfl⟩
      have HA:=hidH hA
      clear hA
      by_cases hu:u<K
      ·have huI:(u:Int)<(K:Int):=by omega
       obtain ⟨B,hB⟩:∃ B,B=A * l:=⟨_,rfl⟩
       have hAl:(A:Int) * (l:Int)=(B:Int):=by rw [hB];push_cast;rfl
       have hBe:B=l ^ (u+1):=by rw [hB,HA.out,Nat.pow_succ]
       have hB125:B≤125:=by rw [hBe];exact zhe hl5 (by omega)
       have HB:=hidH hBe
       clear hB hBe
       go_wp2_with fail
       go_roundw
       case rel=>exact ⟨u+1,B,by go_num,by omega,by first | rfl | simp [hAl],HB.out,by first | trivial | rfl⟩
       case measure=>(simp [intOf];omega)
      ·have huI:¬ (u:Int)<(K:Int):=by omega
       have hKu:K=u:=by omega
       subst hKu
       have hA125:A≤125:=by rw [HA.out];exact zhe hl5 hK3'
       go_wp2_with fail
       clear s0
       go_loopw [6,14] (fun nv jv wr=>∃ j N:Nat,jv=.int .i64 (j:Int)∧j≤A∧nv=.int .i64 (N:Int)∧N=before rs fs i j r∧Below wt.heap.size wt wr) (fun _ jv _=>(200 - intOf jv).toNat)
       case atStart=>exact ⟨0,P0,rfl,by omega,rfl,HP.out,Below.refl _ _⟩
       case round=>
        obtain ⟨wj,rfl⟩:∃ v,v=wr:=⟨wr,rfl⟩
        obtain ⟨j,N,rfl,hjA,rfl,hN,hbj⟩:=hrel
        have HN:=hidH hN
        have BJ:=hidH hbj
        have hsj:=hbj.size
        have hNC:N≤C.length:=by rw [hN,HC.out];exact zkT HCK.out FSo.out.good HRI.out
        clear hN hbj
        by_cases hj:j<A
        ·have hjI:(j:Int)<(A:Int):=by omega
         obtain ⟨U,hU,hUl,hUm⟩:=zkb fs K j (by rw [← HL.out,← HA.out];exact hj)
         obtain ⟨t,ht⟩:∃ t,t=U.map (·.tag):=⟨_,rfl⟩
         have HTJ:=hidH (show (zcR fs (positives r.pats))[j]?=some t by rw [← HKE.out,zcR,List.getElem?_map,hU,ht];rfl)
         have htl:t.length=K:=by rw [ht];simpa using hUl
         have HTM:=hidH (show ∀ m,m<K→∀ f,fs[j / l ^ (K - 1 - m) % l]?=some f→t[m]?=some f.tag from fun m hm f hf=>by
          have:=hUm m hm
          rw [← HL.out,hf] at this
          rw [ht,List.getElem?_map,this]
          rfl)
         have HTW:=hidH (show ∀ x∈t,(Lit.int .i64 x).wf=true from fun x hx=>by rw [ht] at hx;obtain ⟨f,hf,rfl⟩:=List.mem_map.1 hx;exact (FSo.out.read f (zgR (List.mem_of_getElem? hU) f hf)).1)
         clear hU hUl hUm ht
         have hmk:=mkK K hK3'
         go_upto_region 25 with fail
         clear hmk
         refine zaj ?_
         intro w6 hW6 htb
         have TB6:=hidH (show w6.heap[wj.heap.size]?=some (.cells (tcells t K).toArray 3 (0,0)) by rw [htb];unfold tcells;rw [List.drop_of_length_le (by omega)];simp)
         have B6:=hidH hW6
         have hs6:=hW6.size
         clear hW6 htb
         go_wp2_with fail
         go_loopw [16,17] (fun xv mv wr=>∃ m Xq:Nat,m≤K∧mv=.int .i64 ((m:Int) - 1)∧xv=.int .i64 (Xq:Int)∧Xq=j / l ^ (K - m)∧wr.heap[wj.heap.size]?=some (.cells (tcells t m).toArray 3 (0,0))∧MkO (some wj.heap.size) w6 wr) (fun _ mv _=>(intOf mv+1).toNat)
         case atStart=>exact ⟨K,j,Nat.le_refl _,by first | rfl | go_num,rfl,by simp,TB6.out,MkO.refl _ _⟩
         case round=>
          obtain ⟨wm,rfl⟩:∃ v,v=wr:=⟨wr,rfl⟩
          obtain ⟨m,Xq,hmK,rfl,rfl,hX,hTB,hMk⟩:=hrel
          have HX:=hidH hX
          have TBm:=hidH hTB
          have MK:=hidH hMk
          have htbl:wj.heap.size<wm.heap.size:=zab hTB
          have BW:=hidH (show Below wj.heap.size wj wm from B6.out.trans (hMk.below hs6 (fun g hg=>by injection hg with hg;omega)))
          have hsm:=BW.out.size
          have MHm:=hidH (MHt.out.below (BJ.out.trans (BW.out.mono hsj)))
          have s0:=MHm.out.sb
          have hsl':=zbH s0
          rw [← HL.out] at s0
          clear hX hTB hMk
          by_cases hm:m=0
          ·subst hm
           have hmI:¬ (0:Int)≤((0:Nat):Int) - 1:=by decide
           have TI:=hidH (zj6 TBm.out)
           have BB:=hidH (BT.out.trans ((BJ.out.trans (BW.out.mono hsj)).mono hst))
           have QBx:=hidH (fun u (hu:Below wm.heap.size wm u)=>(show u.cell? ⟨wr.heap.size,0,none⟩=some (.string r.name)∧u.cell? ⟨wr.heap.size,1,none⟩=some (.int .i64 r.sal)∧u.cell? ⟨wr.heap.size,2,none⟩=some (.slice pa r.pats.length pc)∧u.cell? ⟨wr.heap.size,3,none⟩=some (.slice ea r.exprs.length ec)∧u.cell? ⟨wr.heap.size,4,none⟩=some (.slice xa' r.acts.length xc') from ⟨zaa hu (zaa BB.out QB4.out.1),zaa hu (zaa BB.out QB4.out.2.1),zaa hu (zaa BB.out QB4.out.2.2.1),zaa hu (zaa BB.out QB4.out.2.2.2.1),zaa hu (zaa BB.out QB4.out.2.2.2.2)⟩))
           have PTm:=hidH (PT4.out.below BB.out)
           have EXm:=hidH (EX4.out.below BB.out)
           have ACm:=hidH (AC4.out.below BB.out)
           have hrm:r∈rs:=List.mem_of_getElem? HRI.out
           have HLE:=hidH (show zbs Ru.le 1048576 [r] from ⟨by simp,fun x hx=>by simp at hx;subst hx;exact RS.out.le.2 x hrm⟩)
           have HOP:=hidH (RS.out.ops r hrm)
           have HVO:=hidH (RS.out.vok r hrm)
           have HCN:=hidH (fun (hh:za3 r fs t=true)=>(show C[N]?=some ⟨(i:Int),t⟩ by rw [HC.out,HN.out];exact zm6 HCK.out FSo.out.good HRI.out HTJ.out hh))
           have HCM:=hidH (fun (y:It) (hy:C[N]?=some y) (hh:za3 r fs t=false)=>(show ¬ (y.rule=(i:Int)∧y.tags=t) from fun h=>by
            have:za3 r fs t=true:=zmh HCK.out FSo.out.good HRI.out (by rw [← HC.out];have:=List.mem_of_getElem? hy;obtain ⟨yr,yt⟩:=y;obtain ⟨rfl,rfl⟩:=h;exact this)
            rw [hh] at this
            cases this))
           have HCT:=hidH (fun (y:It) (hy:C[N]?=some y)=>(show y.tags.length≤6 from (zgh rs fs).2 y (by rw [show zfC rs fs=C by rw [HC.out];unfold zfC;exact if_pos (by simp [ready,HCK.out,FSo.out.good])];exact List.mem_of_getElem? hy)))
           have hl:=HL.out
           clear s0 HTM HX
           subst hl
           have hmm:=MHm.out.sb
           subst htl
           obtain ⟨k0,k1,k2,k3,k4⟩:=QBx.out wm (Below.refl _ _)
           have hqx:=zbH k0
           go_wp2_with fail
           refine (zjv r fs t pa pc ea ec xa' xc' fa fc (some ⟨wj.heap.size,0,none⟩) t.length wm PTm.out EXm.out ACm.out hce HLE.out HOP.out HVO.out MHm.out.fcs (by omega) FSo.out.sized FSo.out.read TI.out (by omega) HTW.out).mono ?_
           rintro e w7 ⟨he7,hb7⟩
           have B7:=hidH hb7
           have hs7:=hb7.size
           clear hb7 k0 k1 k2 k3 k4 hmm
           cases hh:za3 r fs t
           ·rw [hh] at he7
            subst he7
            by_cases hNl:N<C.length
            ·have hNI:(N:Int)<(C.length:Int):=by omega
             have hN0:(0:Int)≤(N:Int):=by omega
             obtain ⟨y,hy⟩:∃ y,C[N]?=some y:=⟨C[N],by simp [hNl]⟩
             have hno:=HCM.out y hy hh
             have hy6:=HCT.out y hy
             obtain ⟨xb,xo,ga,gc,rfl,d0,d1,gi⟩:=(MHm.out.below B7.out).its N y hy
             have hxbl:=zbH d0
             have HNO:=hidH (decide_eq_false hno)
             clear hno hy
             go_wp2_with fail
             refine (zeo y ⟨(i:Int),t⟩ ga (some ⟨wj.heap.size,0,none⟩) gc t.length w7 gi (TI.out.below B7.out) (by omega)).mono ?_
             rintro e w8 ⟨he8,hb8⟩
             rw [show decide (y.rule=(⟨(i:Int),t⟩:It).rule∧y.tags=(⟨(i:Int),t⟩:It).tags)=false from HNO.out] at he8
             subst he8
             have B8:=hidH (B7.out.trans (hb8.mono hs7))
             clear hb8 d0 d1 gi
             obtain ⟨k0,k1,k2,k3,k4⟩:=QBx.out w8 B8.out
             have s1:=((MHm.out.below B8.out).sb)
             have hsx:=zbH s1
             have hqx:=zbH k0
             go_wp2_with fail
             refine (zel r fs t pa pc ea ec xa' xc' fa fc (some ⟨wj.heap.size,0,none⟩) t.length w8 (PTm.out.below B8.out) (EXm.out.below B8.out) (ACm.out.below B8.out) hce HLE.out HOP.out (MHm.out.below B8.out).fcs (by omega) FSo.out.sized (TI.out.below B8.out)).mono ?_
             rintro e w9 ⟨he9,hb9⟩
             rw [hh] at he9
             subst he9
             have B9:=hidH (B8.out.trans (hb9.mono (B8.out.size)))
             clear hb9
             go_wp2_with fail
             go_roundw
             case rel=>exact ⟨j+1,N,by first | rfl | go_num,by omega,by first | rfl | go_num,by rw [zdH HTJ.out,hh,HN.out];simp,BJ.out.trans ((BW.out.trans (B9.out.mono hsm)).mono hsj)⟩
             case measure=>(simp [intOf];omega)
            ·have hNI:¬ (N:Int)<(C.length:Int):=by omega
             obtain ⟨k0,k1,k2,k3,k4⟩:=QBx.out w7 B7.out
             have s1:=((MHm.out.below B7.out).sb)
             have hsx:=zbH s1
             have hqx:=zbH k0
             go_wp2_with fail
             refine (zel r fs t pa pc ea ec xa' xc' fa fc (some ⟨wj.heap.size,0,none⟩) t.length w7 (PTm.out.below B7.out) (EXm.out.below B7.out) (ACm.out.below B7.out) hce HLE.out HOP.out (MHm.out.below B7.out).fcs (by omega) FSo.out.sized (TI.out.below B7.out)).mono ?_
             rintro e w9 ⟨he9,hb9⟩
             rw [hh] at he9
             subst he9
             have B9:=hidH (B7.out.trans (hb9.mono (B7.out.size)))
             clear hb9
             go_wp2_with fail
             go_roundw
             case rel=>exact ⟨j+1,N,by first | rfl | go_num,by omega,by first | rfl | go_num,by rw [zdH HTJ.out,hh,HN.out];simp,BJ.out.trans ((BW.out.trans (B9.out.mono hsm)).mono hsj)⟩
             case measure=>(simp [intOf];omega)
           ·rw [hh] at he7
            subst he7
            have hy:=HCN.out hh
            have hNl:N<C.length:=(List.getElem?_eq_some_iff.1 hy).1
            have hNI:(N:Int)<(C.length:Int):=by omega
            have hN0:(0:Int)≤(N:Int):=by omega
            obtain ⟨xb,xo,ga,gc,rfl,d0,d1,gi⟩:=(MHm.out.below B7.out).its N _ hy
            have hxbl:=zbH d0
            clear hy
            go_wp2_with fail
            refine (zeo ⟨(i:Int),t⟩ ⟨(i:Int),t⟩ ga (some ⟨wj.heap.size,0,none⟩) gc t.length w7 gi (TI.out.below B7.out) (by show t.length≤_;omega)).mono ?_
            rintro e w8 ⟨he8,hb8⟩
            rw [show decide ((⟨(i:Int),t⟩:It).rule=(⟨(i:Int),t⟩:It).rule∧(⟨(i:Int),t⟩:It).tags=(⟨(i:Int),t⟩:It).tags)=true by simp] at he8
            subst he8
            have B8:=hidH (B7.out.trans (hb8.mono hs7))
            clear hb8 d0 d1 gi
            obtain ⟨k0,k1,k2,k3,k4⟩:=QBx.out w8 B8.out
            have s1:=((MHm.out.below B8.out).sb)
            have hsx:=zbH s1
            have hqx:=zbH k0
            go_wp2_with fail
            refine (zel r fs t pa pc ea ec xa' xc' fa fc (some ⟨wj.heap.size,0,none⟩) t.length w8 (PTm.out.below B8.out) (EXm.out.below B8.out) (ACm.out.below B8.out) hce HLE.out HOP.out (MHm.out.below B8.out).fcs (by omega) FSo.out.sized (TI.out.below B8.out)).mono ?_
            rintro e w9 ⟨he9,hb9⟩
            rw [hh] at he9
            subst he9
            have B9:=hidH (B8.out.trans (hb9.mono (B8.out.size)))
            clear hb9
            go_wp2_with fail
            go_roundw
            case rel=>exact ⟨j+1,N+1,by first | rfl | go_num,by omega,by first | rfl | go_num,by rw [zdH HTJ.out,hh,HN.out];simp,BJ.out.trans ((BW.out.trans (B9.out.mono hsm)).mono hsj)⟩
            case measure=>(simp [intOf];omega)
          ·obtain ⟨q,rfl⟩:∃ q,m=q+1:=⟨m - 1,by omega⟩
           rw [show ((q+1:Nat):Int) - 1=(q:Int) by omega]
           have hq0:(0:Int)≤(q:Int):=by omega
           have hqK:(q:Int)<(K:Int):=by omega
           have hl0:0<l:=by
            rcases Nat.eq_zero_or_pos l with h0 | h0
            ·have:=HA.out
             rw [h0,Nat.zero_pow (by omega)] at this
             omega
            ·exact h0
           have hlI:¬ (l:Int)=0:=by omega
           obtain ⟨d,hd⟩:∃ d,d=Xq % l:=⟨_,rfl⟩
           have hdl:d<l:=by rw [hd];exact Nat.mod_lt _ hl0
           have hde:(Xq:Int) % (l:Int)=(d:Int):=by rw [hd];push_cast;rfl
           have hdt:(Xq:Int).tmod (l:Int)=(d:Int):=by rw [hd];exact (Int.ofNat_tmod _ _).symm
           obtain ⟨Y,hY⟩:∃ Y,Y=Xq / l:=⟨_,rfl⟩
           have hYe:(Xq:Int) / (l:Int)=(Y:Int):=by rw [hY];push_cast;rfl
           have hdI:(d:Int)<(l:Int):=by omega
           have hd0:(0:Int)≤(d:Int):=by omega
           obtain ⟨f,hf⟩:∃ f,fs[d]?=some f:=⟨fs[d]'(by rw [← HL.out];exact hdl),by simp⟩
           obtain ⟨fb,fo,rfl,hfbl,c0,c1,sa,sc,c2,_⟩:=MHm.out.fcs.getM hf
           have HTQ:=hidH (HTM.out q (by omega) f (by rw [show K - 1 - q=K - (q+1) by omega,← HX.out,← hd];exact hf))
           have e0:wm.cell? ⟨wj.heap.size,q,none⟩=some (.int .i64 0):=by simp only [World.cell?,TBm.out];simpa using zk2 t q
           have z0:wm.frozen? ⟨wj.heap.size,q,none⟩=false:=by simp [World.frozen?,TBm.out]
           have HYX:=hidH (show Y=j / l ^ (K - q) by rw [hY,HX.out,Nat.div_div_eq_div_mul,← Nat.pow_succ,show (K - (q+1)).succ=K - q by omega])
           have hY125:Y≤125:=by
            have h1:Xq≤j:=by rw [HX.out];exact Nat.div_le_self _ _
            have h2:Y≤Xq:=by rw [hY];exact Nat.div_le_self _ _
            omega
           clear hd hY hf c1 c2
           go_wp2_with fail
           go_region
           go_wp2_with fail
           go_roundw
           case rel=>
            refine ⟨q,Y,by omega,by first | rfl | go_num,by first | rfl | simp [hYe],HYX.out,?_,MK.out.trans ((MkO.set _).trans (MkO.of_below (Below.refl _ _).drew))⟩
            have:=zad (w:=wm) (g:=wj.heap.size) (i:=q) TBm.out (.int .i64 f.tag)
            rw [← zjy HTQ.out]
            show (wm.setCell ⟨wj.heap.size,q,none⟩ (.int .i64 f.tag)).heap[wj.heap.size]?=_
            simpa using this
           case measure=>(simp [intOf])
        ·have hjI:¬ (j:Int)<(A:Int):=by omega
         go_wp2_with fail
         go_roundw
         case rel=>
          have hjE:j=(zcR fs (positives r.pats)).length:=by rw [zcR,List.length_map,zeR,← HL.out,← HKE.out,← HA.out];omega
          refine ⟨i+1,by go_num,by omega,?_,B4.out.trans ((BT.out.trans (BJ.out.mono hst)).mono (by omega))⟩
          rw [HN.out,hjE,zil HCK.out FSo.out.good HRI.out]
         case measure=>(simp [intOf];omega)
  ·have hiI:¬ (i:Int)<(rs.length:Int):=by omega
   have hE:P0=C.length:=by rw [hP0,HC.out,List.take_of_length_le (by omega)]
   rw [← hP0,hE]
   go_wp2_with fail
   go_ret
   exact ⟨by simp,B3.out.trans (BR.out.mono (by omega))⟩
end Go.Proofs.YtmmdlgjmplddiaaGreat
namespace Go.Proofs.YtmmdlgjmplddiaaGreat
open Go.ChangeShapes Go.WideShapes Go.ChangeAt Go.RowKit Go.Joins
open Go.ChangeMaps (open_string shut_string)
set_option maxRecDepth 100000 in
theorem zkp (os:Os) (started:os.Started) (H:Type) (enc:TypeId × Value→H) :
  ReturnsInHanded {} Tryz.checked os 3 .any (Rows.fnHoldsSpec.pre6 enc Tryz.prog Tryz.f3 Rows.fnHoldsRow.domain false) (Rows.fnHoldsSpec.post enc Tryz.prog Tryz.f3 false true false false):=by
 refine returnsInHanded_of_change (C:=Tryz.checked) ownK started (by kernel_rfl) Tryz.func3
  (ChangeSpec.witness6 (enc:=enc) (C:=Tryz.checked) false ⟨#[],#[.slice none 0 0],[]⟩ 8 (by kernel_rfl) (by kernel_rfl) (by kernel_rfl) (by kernel_rfl)) ?_
 intro W base args ds gs before hval0 hW hcnd _
 have hval:∀ (j:Nat) t v,Tryz.f3.params[j]?=some t→args[j]?=some v→Value.okWide Tryz.prog W .any base t v:=hval0
 have hW':=hW
 obtain ⟨p,q,hA0,hV,rfl,hfz,hnd⟩:=hW
 have hA:DataW.TrodAll enc Tryz.prog W 0 (fun _=>true) true Tryz.f3.params.toList args.toList ds p:=hA0
 rw [Tryz.params3] at hA hval
 obtain ⟨v0,vs0,d0,ds0,p0,q0,hargs,rfl,rfl,h0,r0⟩:=trodAll_cons hA
 obtain ⟨rfl,rfl,rfl⟩:=trodAll_nil r0
 obtain rfl:args=#[v0]:=by cases args;simp_all
 obtain ⟨rfl,rfl⟩:=trodVars_none hV
 have k0:=h0
 have lt0:∀ x∈p0,x.block<W.heap.size:=by obtain ⟨m,hm⟩:=k0;exact DataW.trod_lt m _ _ _ hm
 obtain ⟨sa,sn,sc,rfl⟩:=okWide_slice Tryz.underlying22 (hval 0 22 v0 rfl rfl)
 obtain ⟨m1,hm1⟩:=h0
 obtain ⟨sa',sn',sc',e4,hsv⟩:=zlK hm1
 simp only [Value.cells,List.cons.injEq,and_true,Value.slice.injEq] at e4
 obtain ⟨rfl,rfl,rfl⟩:=e4
 clear hA0 hval0
 refine (zk8 _ _ _ W hsv).mono fun e W' ⟨he,bel⟩=>?_
 subst he
 exact ⟨_,rfl,_,_,_,[],_,[],hW',trodAll_mk1 (shut_bool Tryz.underlying4 _),(trodAll_cons_mk (Below.trod zkn (by kernel_rfl) (of_decide_eq_true (by kernel_rfl)) k0 bel lt0) trodAll_mk0),rfl,bel.frame _,fun h=>by cases h⟩
theorem fnHolds_holds:Rows.FnHoldsSaid:=
 OpenClaim.holds_of_wide 3 Tryz.f3 rfl rfl rfl rfl rfl rfl rfl ⟨rfl,rfl,rfl,rfl,rfl⟩ rfl rfl rfl rfl rfl (by kernel_rfl) Tryz.func3 (by kernel_rfl)
  (of_decide_eq_true (by kernel_rfl)) (by unfold Func.isWrapper;first | (rw [if_pos (by decide +kernel)];kernel_rfl) | (rw [if_neg (by decide +kernel)];exact ⟨rfl,rfl⟩))
  (fun os started H enc _=>zkp os started H enc)
#print axioms fnHolds_holds
end Go.Proofs.YtmmdlgjmplddiaaGreat
