/-
  OUR OWN TEXT. Impl3, Sv, Pg6, Pq1, Pg7, Pg8, one behind the other.
-/
import Derived.Test.YtmmdlgjmplddiaaGreatKbk
import Derived.Deep.RegionHeld3
import Derived.Deep.QuietTactic
import Derived.BigQuiet
import Derived.Deep.DrawnRows
import Derived.Test.YtmmdlgjmplddiaaGreatKai
import Derived.Test.YtmmdlgjmplddiaaGreatKag
import Derived.Test.YtmmdlgjmplddiaaGreatKam
import Derived.Test.YtmmdlgjmplddiaaGreatKbl
import Derived.Test.YtmmdlgjmplddiaaGreatKau
import Derived.Test.YtmmdlgjmplddiaaGreatKbg
namespace Go.Proofs.YtmmdlgjmplddiaaGreat
open Go.RowKit
attribute [local go_sem ↓] Go.wp_at_zero Go.wp_at_succ
end Go.Proofs.YtmmdlgjmplddiaaGreat
namespace Go.Proofs.YtmmdlgjmplddiaaGreat
open Go.RowKit
attribute [local go_sem ↓] Go.wp_at_zero Go.wp_at_succ
end Go.Proofs.YtmmdlgjmplddiaaGreat
namespace Go.Proofs.YtmmdlgjmplddiaaGreat
open Go.RowKit
attribute [local go_sem ↓] Go.wp_at_zero Go.wp_at_succ
def PlB (w:World) (pb:Nat) (v0 v1:Value):Prop:=w.heap[pb]?=some (.cells #[v0,v1] 71 (0,0))
theorem PlB.facts {w:World}{b:Nat}{v0 v1:Value} (h:PlB w b v0 v1):(w.cell? ⟨b,0,none⟩=some v0∧w.cell? ⟨b,1,none⟩=some v1)∧(∀ j,w.frozen? ⟨b,j,none⟩=false)∧b<w.heap.size:=by
 unfold PlB at h
 exact ⟨cells2P h,fun j=>by simp [World.frozen?,h],zab h⟩
theorem PlB.set1 {w:World}{b:Nat}{v0 v1:Value} (h:PlB w b v0 v1) (x:Value):PlB (w.setCell ⟨b,1,none⟩ x) b v0 x:=by
 have:=zaf (i:=1) h x
 simpa [PlB] using this
theorem PlB.bel {w w':World}{b:Nat}{v0 v1:Value} (h:PlB w b v0 v1) (hb:Below w.heap.size w w'):PlB w' b v0 v1:=(hb.block b (zab h)).trans h
structure Fp (pb:Nat) (row:Option Nat) (w w':World):Prop where
 rest:Below 0 w w'
 block:∀ k,k<w.heap.size→k≠pb→row≠some k→w'.heap[k]?=w.heap[k]?
theorem Fp.refl (pb:Nat) (row:Option Nat) (w:World):Fp pb row w w:=⟨Below.refl _ _,fun _ _ _ _=>rfl⟩
theorem Fp.bel {pb:Nat}{row:Option Nat}{u w w':World} (h:Fp pb row u w) (hb:Below w.heap.size w w'):Fp pb row u w':=⟨h.rest.trans (hb.mono (Nat.zero_le _)),fun k hk h1 h2=>(hb.block k (Nat.lt_of_lt_of_le hk h.rest.size)).trans (h.block k hk h1 h2)⟩
theorem znI:(Tryz.prog.info? 215).map (fun i=>(i.zero,i.size,i.bytes))=some (some (.agg #[.string ⟨#[]⟩,.int .i64 0,.int .i64 0]),3,32):=by kernel_rfl
theorem znN (v:Vr):∀ u∈zbJ v,u.oneCell'=true:=by
 intro u hu
 simp [zbJ] at hu
 rcases hu with rfl | rfl | rfl <;> rfl
theorem zfG.owns {w:World}{base:Nat}{a:Option Addr}{c:Nat}{vs:List Vr} (h:w.ownsRow base 215 3 (.slice a vs.length c) vs.length (vs.flatMap zbJ)):zfG w a vs:=by
 intro i v hi
 have key:=fun j u (hj:(zbJ v)[j]?=some u)=>zam h (za5 (cells:=zbJ) (m:=3) (fun _=>rfl) vs i v j u hi hj)
 obtain ⟨k,rfl,_,h0,_⟩:=key 0 _ rfl
 obtain ⟨k1,e1,_,h1,_⟩:=key 1 _ rfl
 obtain ⟨k2,e2,_,h2,_⟩:=key 2 _ rfl
 cases e1
 cases e2
 exact ⟨k,0,rfl,by simpa using h0,by simpa using h1,by simpa using h2⟩
def zar (vs:List Vr) (ts:List Tm) (n:Nat):Nat→List Vr
 | 0=>vs
 | i+1=>(match ts[i]? with | none=>zar vs ts n i | some t=>if t.kind=2∧zaT (zar vs ts n i) t.var=none then zar vs ts n i ++ [⟨t.var,n,i⟩] else zar vs ts n i)
theorem zcu {vs:List Vr}{ts:List Tm}{n i:Nat}{t:Tm} (h:ts[i]?=some t):zar vs ts n (i+1)=if t.kind=2∧zaT (zar vs ts n i) t.var=none then zar vs ts n i ++ [⟨t.var,n,i⟩] else zar vs ts n i:=by simp [zar,h]
theorem zcj (vs:List Vr) (ts:List Tm) (n:Nat):∀ i,(zar vs ts n i).length≤vs.length+i
 | 0=>Nat.le_refl _
 | i+1=>by
  have h1:=zcj vs ts n i
  simp only [zar]
  cases ts[i]? with
  | none=>simp only;omega
  | some t=>
   simp only
   split
   ·simp;omega
   ·omega
theorem Fp.step {pb:Nat}{row row':Option Nat}{u wr w4 w7 w8:World}{x:Value} (h:Fp pb row u wr) (hr:∀ g,row'=some g→row=some g∨u.heap.size≤g) (h4:Below wr.heap.size wr w4) (h7:Below w4.heap.size w4 w7) (hg:w7.grownBy w8 row'):Fp pb row u (w8.setCell ⟨pb,1,none⟩ x):=by
 have ht:Turned w8 (w8.setCell ⟨pb,1,none⟩ x) pb:=Turned.setCells [x] 1 w8 pb
 refine ⟨((((h.rest.trans (h4.mono (Nat.zero_le _))).trans (h7.mono (Nat.zero_le _))).grown hg (Nat.zero_le _) (fun _ _=>Nat.zero_le _)).trans (ht.below (Nat.zero_le _))),fun k hk h1 h2=>?_⟩
 have k1:k<wr.heap.size:=Nat.lt_of_lt_of_le hk h.rest.size
 have k4:k<w4.heap.size:=Nat.lt_of_lt_of_le k1 h4.size
 have k7:k<w7.heap.size:=Nat.lt_of_lt_of_le k4 h7.size
 rw [ht.block k h1,hg.block k k7 (fun e=>by rcases hr k e.symm with h' | h';exact h2 h';omega),h7.block k k4,h4.block k k1]
 exact h.block k hk h1 h2
set_option maxRecDepth 100000 in
set_option maxHeartbeats 12800000 in
theorem zdq (pb n:Nat) (p:Pt) (a_t:Option Addr) (c_t:Nat) (va:Option Addr) (vc:Nat) (vs:List Vr) (v0:Value) (B:Nat) {q:Option Nat} (wA w:World) (hA:Below wA.heap.size wA w) (h_t:zcl q wA a_t p.terms) (hP:PlB w pb v0 (.slice va vs.length vc)) (hO:w.ownsRow B 215 3 (.slice va vs.length vc) vs.length (vs.flatMap zbJ)) (hAB:wA.heap.size≤B) (hAp:wA.heap.size≤pb) (hB:B≤w.heap.size) (hl:p.terms.length≤1000) (hvl:vs.length≤1000) :
  Calls Tryz.prog 93 #[.pointer (some ⟨pb,0,none⟩),.agg #[.bool p.neg,.string p.cls,.slice a_t p.terms.length c_t],.int .i64 (n:Int)] w fun e w'=>e=.returned (.tuple #[])∧(∃ va' vc',PlB w' pb v0 (.slice va' (zar vs p.terms n p.terms.length).length vc')∧w'.ownsRow B 215 3 (.slice va' (zar vs p.terms n p.terms.length).length vc') (zar vs p.terms n p.terms.length).length ((zar vs p.terms n p.terms.length).flatMap zbJ)∧(∀ g,(Value.slice va' (zar vs p.terms n p.terms.length).length vc').ownBlock=some g→(Value.slice va vs.length vc).ownBlock=some g∨w.heap.size≤g))∧Fp pb (Value.slice va vs.length vc).ownBlock w w'∧Below wA.heap.size wA w':=by
 have HT:=hidP h_t
 have HAA:=hidP hA
 have HPP:=hidP hP
 have HOO:=hidP hO
 have hpw:=zab hP
 clear h_t hA hP hO
 go_enter Tryz.func93,Tryz.ntmps93
 go_upto_region 1 with fail
 refine zaj ?_
 intro w0 hW0 hq0
 obtain ⟨b0,b1,b2⟩:=cells3P hq0
 have H0:=hidP hW0
 have P0:=hidP (HPP.out.bel hW0)
 have O0:=hidP (zag HOO.out hW0)
 have F0:=hidP ((Fp.refl pb (Value.slice va vs.length vc).ownBlock w).bel hW0)
 have A0:=hidP (HAA.out.trans (hW0.mono HAA.out.size))
 have hs0:=hW0.size
 clear hW0 hq0 HPP HOO HAA
 go_wp2_with fail
 clear b0 b1 b2
 go_loopw [13] (fun iv wr=>∃ (k:Nat) (va':Option Addr) (vc':Nat) (U:List Vr),iv=.int .i64 (k:Int)∧k≤p.terms.length∧zar vs p.terms n k=U∧PlB wr pb v0 (.slice va' U.length vc')∧wr.ownsRow B 215 3 (.slice va' U.length vc') U.length (U.flatMap zbJ)∧Fp pb (Value.slice va vs.length vc).ownBlock w wr∧(∀ g,(Value.slice va' U.length vc').ownBlock=some g→(Value.slice va vs.length vc).ownBlock=some g∨w.heap.size≤g)∧w.heap.size≤wr.heap.size∧Below wA.heap.size wA wr) (fun iv _=>p.terms.length - (intOf iv).toNat)
 case atStart=>exact ⟨0,va,vc,vs,rfl,Nat.zero_le _,rfl,P0.out,O0.out,F0.out,fun g hg=>.inl hg,hs0,A0.out⟩
 case round=>
  obtain ⟨k,va',vc',U,rfl,hkl,hU,hPr,hOr,hFr,hRr,hsr,hAr⟩:=hrel
  have HU:=hidP hU
  have PR:=hidP hPr
  have OR:=hidP hOr
  have FPR:=hidP hFr
  have HRB:=hidP hRr
  have AR:=hidP hAr
  have hUl:U.length≤2000:=by
   have:=zcj vs p.terms n k
   rw [hU] at this
   omega
  have hpr:=zab hPr
  clear hU hPr hOr hFr hRr hAr P0 O0 F0 A0
  by_cases hk:k<p.terms.length
  ·obtain ⟨t,ht⟩:∃ t,p.terms[k]?=some t:=⟨p.terms[k],by simp [hk]⟩
   obtain ⟨mb,mo,rfl,_,c0,c1,c2,c3,c4,c5⟩:=(HT.out.below AR.out).get ht
   have HST:=hidP (zcu (vs:=vs) (n:=n) ht)
   rw [HU.out] at HST
   have z0:(0:Int)≤(k:Int):=by omega
   have z1:(k:Int)<(p.terms.length:Int):=by omega
   clear ht
   go_upto_region 4 with fail
   refine zaj ?_
   intro w2 hW2 hq2
   obtain ⟨tb,htb⟩:∃ tb,tb=wr.heap.size:=⟨_,rfl⟩
   rw [← htb] at hq2 ⊢
   obtain ⟨d0,d1,d2,d3,d4,d5⟩:=cells6P hq2
   have D2:=hidP hW2
   have hs2:=hW2.size
   have hl2:tb<w2.heap.size:=zab hq2
   have hptb:pb<tb:=by omega
   have HNT:=hidP (fun g (hg:(Value.slice va' U.length vc').ownBlock=some g)=>(show g<tb by have:=(OR.out.lt g hg).2;omega))
   have hneP:(Value.slice va' U.length vc').ownBlock≠some pb:=fun e=>by
    obtain ⟨cc,hcc⟩:=zai OR.out e
    exact zaA hcc PR.out (by decide)
   have HWH:=hidP (zik pb t.var va' vc' U w2 (PR.out.bel hW2).facts.1.2 (zfG.owns (zag OR.out hW2)) (by omega))
   clear hW2 hq2 c0 c1 c2 c3 c4 c5 htb
   by_cases hk2:t.kind=2
   ·have b2':(t.kind==2)=true:=by simpa using hk2
    cases hlk:zaT U t.var with
    | some x=>
     have HN:=hidP (show zar vs p.terms n (k+1)=U by rw [HST.out,if_neg (by rw [hlk];simp)])
     rw [hlk] at HWH
     unfold whV at HWH
     clear hlk hk2
     go_wp2_with fail
     refine HWH.out.mono ?_
     rintro e w3 ⟨rfl,hb3⟩
     have D3:=hidP (D2.out.trans (hb3.mono D2.out.size))
     have f0:=zaa hb3 d0
     have f2:=zaa hb3 d2
     have hs3:=hb3.size
     clear hb3 HWH d0 d1 d2 d3 d4 d5 D2
     go_upto_region 5 with fail
     refine zaj ?_
     intro w4 hW4 hq4
     have D4:=hidP (D3.out.trans (hW4.mono D3.out.size))
     have g0:=zaa hW4 f0
     have g2:=zaa hW4 f2
     have hs4:=hW4.size
     clear hW4 hq4 f0 f2 D3
     go_wp2_with fail
     go_roundw
     case rel=>exact ⟨k+1,va',vc',U,by go_num,by omega,HN.out,PR.out.bel D4.out,zag OR.out D4.out,FPR.out.bel D4.out,HRB.out,by have:=D4.out.size;omega,AR.out.trans (D4.out.mono AR.out.size)⟩
     case measure=>(simp [intOf];omega)
    | none=>
     have HN:=hidP (show zar vs p.terms n (k+1)=U ++ [⟨t.var,n,k⟩] by rw [HST.out,if_pos ⟨hk2,hlk⟩])
     rw [hlk] at HWH
     unfold whV at HWH
     clear hlk hk2
     go_wp2_with fail
     refine HWH.out.mono ?_
     rintro e w3 ⟨rfl,hb3⟩
     have D3:=hidP (D2.out.trans (hb3.mono D2.out.size))
     have f0:=zaa hb3 d0
     have f2:=zaa hb3 d2
     have hs3:=hb3.size
     clear hb3 HWH d0 d1 d2 d3 d4 d5 D2
     go_upto_region 5 with fail
     refine zaj ?_
     intro w4 hW4 hq4
     have D4:=hidP (D3.out.trans (hW4.mono D3.out.size))
     have g0:=zaa hW4 f0
     have g2:=zaa hW4 f2
     have hs4:=hW4.size
     clear hW4 hq4 f0 f2 D3
     have P4:=hidP (PR.out.bel D4.out)
     have R4:=hidP (zag OR.out D4.out)
     have HW4:=hidP (fun o'=>(Below.refl w4.heap.size w4).drew.alloc (by simp) o':∀ o',Below w4.heap.size w4 (w4.drew.alloc o'))
     have A4:=hidP (AR.out.trans (D4.out.mono AR.out.size))
     have q1:w4.cell? ⟨pb,1,none⟩=some (.slice va' U.length vc'):=P4.out.facts.1.2
     have q5:∀ o,(w4.drew.alloc o).cell? ⟨pb,1,none⟩=some (.slice va' U.length vc'):=fun o=>(P4.out.bel (HW4.out o)).facts.1.2
     have hneT:(Value.slice va' U.length vc').ownBlock≠some tb:=fun e=>by have:=HNT.out _ e;omega
     have htp:tb≠pb:=by omega
     have hp4:pb<w4.heap.size:=by omega
     have hB4:B≤w4.heap.size:=by omega
     go_wp2_with fail
     refine wp_region_noPanic ?_
     refine wp_region_held_drew (S:=(fun w'=>w'.cell? ⟨tb,2,none⟩=some (.string t.var))) (by kernel_rfl) ?_ (fun hHeld=>?_)
     ·(try dsimp only)
      (first | (simp [*];done) | assumption)
     refine tk 0 hHeld ?_
     (try simp only [pA,pZ,pS])
     refine tk 1 hHeld ?_
     (try simp only [pA,pZ,pS])
     refine tk 2 hHeld ?_
     (try simp only [pA,pZ,pS])
     refine tk 3 hHeld ?_
     (try simp only [pA,pZ,pS])
     refine tk 5 hHeld ?_
     (try simp only [pA,pZ,pS])
     refine tk 6 hHeld ?_
     (try simp only [pA,pZ,pS])
     refine tk 7 hHeld ?_
     (try simp only [pA,pZ,pS])
     refine tk 8 hHeld ?_
     (try simp only [pA,pZ,pS])
     refine tk 9 hHeld ?_
     (try simp only [pA,pZ,pS])
     refine tk 10 hHeld ?_
     (try simp only [pA,pZ,pS])
     refine wpAnyH_ready (rs:=[4,11]) (by kernel_rfl) (by simp) ?_
     refine AllReadyH.cons (o:=?o1) ?ho1 (fun K hK=>?step1) (AllReadyH.cons (o:=?o2) ?ho2 (fun K hK=>?step2) AllReadyH.nil)
     case ho1=>(simp only [List.getElem?_toArray,List.getElem?_cons_succ,List.getElem?_cons_zero];rfl)
     case ho2=>(simp only [List.getElem?_toArray,List.getElem?_cons_succ,List.getElem?_cons_zero];rfl)
     case step1=>
      go_simp
      refine hK.out _ _ ?hS3 (fun hHeld'=>?rest3)
      case hS3=>((try dsimp only);(first | (simp [*];done) | assumption))
      clear hK K
      (first | simp only [pA,pZ,pS] | simp only [pN] | skip)
      clear hHeld
      have hHeld:=hHeld'
      clear hHeld'
      refine wpAnyH_ready (rs:=[11]) (by kernel_rfl) (by simp) ?_
      refine AllReadyH.cons (o:=?o4) ?ho4 (fun K hK=>?step4) AllReadyH.nil
      case ho4=>(simp only [List.getElem?_toArray,List.getElem?_cons_succ,List.getElem?_cons_zero];rfl)
      go_simp
      refine hK.out _ _ ?hS5 (fun hHeld'=>?rest5)
      case hS5=>((try dsimp only);(first | (simp [go_sem, *];done) | exact zaa ((Below.refl _ _).alloc (Nat.le_refl _) _) (by assumption)))
      clear hK K
      (first | simp only [pA,pZ,pS] | simp only [pN] | skip)
      clear hHeld
      have hHeld:=hHeld'
      clear hHeld'
      refine wpAnyH_ready (rs:=[12]) (by kernel_rfl) (by simp) ?_
      refine AllReadyH.cons (o:=?o6) ?ho6 (fun K hK=>?step6) AllReadyH.nil
      case ho6=>(simp only [List.getElem?_toArray,List.getElem?_cons_succ,List.getElem?_cons_zero];rfl)
      (refine zao (by rfl) (.tmp 36) (.tmp 43) 69 (by rfl) B 215 _ 3 32 Tryz.underlying69 znI (by rfl) (by omega) _ U.length _ (by rfl) (zag R4.out (HW4.out _)) (some ⟨_,0,none⟩) 1 1 (by rfl) (zbJ ⟨t.var,n,k⟩) (by rfl) (fun e=>by cases e) (zav _ _ _ _ (by simp)) (znN _) (by unfold maxLen;omega) (by omega) (by simp;omega) ?_;intro a8 c8 w8 ho8 hg8 hl8;have P8:=hidP (show PlB w8 pb v0 (.slice va' U.length vc') from (hg8.out.block pb (by simp;omega) (fun e=>hneP e.symm)).trans (((HW4.out _).block pb (by omega)).trans P4.out));obtain ⟨⟨_,m1⟩,zz,_⟩:=P8.out.facts;have z1:=zz 1;clear zz)
      refine hK.out _ _ ?hS7 (fun hHeld'=>?rest7)
      case hS7=>((try dsimp only);(first | exact (zaw hg8.out hneT (by simp;omega)).trans (by assumption)))
      clear hK K
      (first | simp only [pA,pZ,pS] | simp only [pN] | skip)
      clear hHeld
      have hHeld:=hHeld'
      clear hHeld'
      refine tk 13 hHeld ?_
      (try simp only [pA,pZ,pS])
      refine tk 14 hHeld ?_
      (try simp only [pA,pZ,pS])
      refine wpAnyH_ready (rs:=[15]) (by kernel_rfl) (by simp) ?_
      refine AllReadyH.cons (o:=?o8) ?ho8 (fun K hK=>?step8) AllReadyH.nil
      case ho8=>(simp only [List.getElem?_toArray,List.getElem?_cons_succ,List.getElem?_cons_zero];rfl)
      go_simp
      refine hK.out _ _ ?hS9 (fun hHeld'=>?rest9)
      case hS9=>((try dsimp only);(first | (simp [go_sem, *];done)))
      clear hK K
      (first | simp only [pA,pZ,pS] | simp only [pN] | skip)
      clear hHeld
      have hHeld:=hHeld'
      clear hHeld'
      refine wpAnyH_done (by kernel_rfl) ?_ _
      refine NoPanic.normal ?_
      have R8:=hidP (show w8.ownsRow B 215 3 (.slice a8 (U.length+1) c8) (U.length+1) ((U ++ [(⟨t.var,n,k⟩:Vr)]).flatMap zbJ) by have:=ho8.out;simpa using this)
      have P9:=hidP (P8.out.set1 (.slice a8 (U.length+1) c8))
      have R9:=hidP (zbB (o:=1) (x:=.slice a8 (U.length+1) c8) R8.out P8.out (by decide))
      have F9:=hidP (Fp.step (x:=.slice a8 (U.length+1) c8) FPR.out HRB.out D4.out (HW4.out _) hg8.out)
      have hrow9:=hidP (show ∀ g,(Value.slice a8 (U.length+1) c8).ownBlock=some g→(Value.slice va vs.length vc).ownBlock=some g∨w.heap.size≤g by intro g hg;rcases hl8.out with h | h;exact HRB.out g (by rw [← h];exact hg);right;rw [h] at hg;injection hg with hg;simp at hg;omega)
      have A9:=hidP ((((A4.out.trans ((HW4.out _).mono A4.out.size)).grown hg8.out (by have:=A4.out.size;simp;omega) (fun g hg=>Nat.le_trans hAB (R4.out.lt g hg).1)).setCell (p:=⟨pb,1,none⟩) hAp (.slice a8 (U.length+1) c8)))
      clear ho8 hg8 hl8
      go_wp2_with fail
      go_roundw
      case rel=>exact ⟨k+1,a8,c8,U ++ [⟨t.var,n,k⟩],by go_num,by omega,by rw [HN.out],by simpa using P9.out,by simpa using R9.out,F9.out,by simpa using hrow9.out,by have:=F9.out.rest.size;omega,A9.out⟩
      case measure=>(simp [intOf];omega)
     case step2=>
      go_simp
      refine hK.out _ _ ?hS10 (fun hHeld'=>?rest10)
      case hS10=>((try dsimp only);(first | (simp [go_sem, *];done) | exact zaa ((Below.refl _ _).alloc (Nat.le_refl _) _) (by assumption)))
      clear hK K
      (first | simp only [pA,pZ,pS] | simp only [pN] | skip)
      clear hHeld
      have hHeld:=hHeld'
      clear hHeld'
      refine wpAnyH_ready (rs:=[4]) (by kernel_rfl) (by simp) ?_
      refine AllReadyH.cons (o:=?o11) ?ho11 (fun K hK=>?step11) AllReadyH.nil
      case ho11=>(simp only [List.getElem?_toArray,List.getElem?_cons_succ,List.getElem?_cons_zero];rfl)
      go_simp
      refine hK.out _ _ ?hS12 (fun hHeld'=>?rest12)
      case hS12=>((try dsimp only);(first | assumption))
      clear hK K
      (first | simp only [pA,pZ,pS] | simp only [pN] | skip)
      clear hHeld
      have hHeld:=hHeld'
      clear hHeld'
      refine wpAnyH_ready (rs:=[12]) (by kernel_rfl) (by simp) ?_
      refine AllReadyH.cons (o:=?o13) ?ho13 (fun K hK=>?step13) AllReadyH.nil
      case ho13=>(simp only [List.getElem?_toArray,List.getElem?_cons_succ,List.getElem?_cons_zero];rfl)
      (refine zao (by rfl) (.tmp 36) (.tmp 43) 69 (by rfl) B 215 _ 3 32 Tryz.underlying69 znI (by rfl) (by omega) _ U.length _ (by rfl) (zag R4.out (HW4.out _)) (some ⟨_,0,none⟩) 1 1 (by rfl) (zbJ ⟨t.var,n,k⟩) (by rfl) (fun e=>by cases e) (zav _ _ _ _ (by simp)) (znN _) (by unfold maxLen;omega) (by omega) (by simp;omega) ?_;intro a8 c8 w8 ho8 hg8 hl8;have P8:=hidP (show PlB w8 pb v0 (.slice va' U.length vc') from (hg8.out.block pb (by simp;omega) (fun e=>hneP e.symm)).trans (((HW4.out _).block pb (by omega)).trans P4.out));obtain ⟨⟨_,m1⟩,zz,_⟩:=P8.out.facts;have z1:=zz 1;clear zz)
      refine hK.out _ _ ?hS14 (fun hHeld'=>?rest14)
      case hS14=>((try dsimp only);(first | exact (zaw hg8.out hneT (by simp;omega)).trans (by assumption)))
      clear hK K
      (first | simp only [pA,pZ,pS] | simp only [pN] | skip)
      clear hHeld
      have hHeld:=hHeld'
      clear hHeld'
      refine tk 13 hHeld ?_
      (try simp only [pA,pZ,pS])
      refine tk 14 hHeld ?_
      (try simp only [pA,pZ,pS])
      refine wpAnyH_ready (rs:=[15]) (by kernel_rfl) (by simp) ?_
      refine AllReadyH.cons (o:=?o15) ?ho15 (fun K hK=>?step15) AllReadyH.nil
      case ho15=>(simp only [List.getElem?_toArray,List.getElem?_cons_succ,List.getElem?_cons_zero];rfl)
      go_simp
      refine hK.out _ _ ?hS16 (fun hHeld'=>?rest16)
      case hS16=>((try dsimp only);(first | (simp [go_sem, *];done)))
      clear hK K
      (first | simp only [pA,pZ,pS] | simp only [pN] | skip)
      clear hHeld
      have hHeld:=hHeld'
      clear hHeld'
      refine wpAnyH_done (by kernel_rfl) ?_ _
      refine NoPanic.normal ?_
      have R8:=hidP (show w8.ownsRow B 215 3 (.slice a8 (U.length+1) c8) (U.length+1) ((U ++ [(⟨t.var,n,k⟩:Vr)]).flatMap zbJ) by have:=ho8.out;simpa using this)
      have P9:=hidP (P8.out.set1 (.slice a8 (U.length+1) c8))
      have R9:=hidP (zbB (o:=1) (x:=.slice a8 (U.length+1) c8) R8.out P8.out (by decide))
      have F9:=hidP (Fp.step (x:=.slice a8 (U.length+1) c8) FPR.out HRB.out D4.out (HW4.out _) hg8.out)
      have hrow9:=hidP (show ∀ g,(Value.slice a8 (U.length+1) c8).ownBlock=some g→(Value.slice va vs.length vc).ownBlock=some g∨w.heap.size≤g by intro g hg;rcases hl8.out with h | h;exact HRB.out g (by rw [← h];exact hg);right;rw [h] at hg;injection hg with hg;simp at hg;omega)
      have A9:=hidP ((((A4.out.trans ((HW4.out _).mono A4.out.size)).grown hg8.out (by have:=A4.out.size;simp;omega) (fun g hg=>Nat.le_trans hAB (R4.out.lt g hg).1)).setCell (p:=⟨pb,1,none⟩) hAp (.slice a8 (U.length+1) c8)))
      clear ho8 hg8 hl8
      go_wp2_with fail
      go_roundw
      case rel=>exact ⟨k+1,a8,c8,U ++ [⟨t.var,n,k⟩],by go_num,by omega,by rw [HN.out],by simpa using P9.out,by simpa using R9.out,F9.out,by simpa using hrow9.out,by have:=F9.out.rest.size;omega,A9.out⟩
      case measure=>(simp [intOf];omega)
   ·have b2':(t.kind==2)=false:=by simpa using hk2
    have HN:=hidP (show zar vs p.terms n (k+1)=U by rw [HST.out,if_neg (fun h=>hk2 h.1)])
    cases hlk:zaT U t.var with
    | some x=>
     rw [hlk] at HWH
     unfold whV at HWH
     clear hlk hk2
     go_wp2_with fail
     refine HWH.out.mono ?_
     rintro e w3 ⟨rfl,hb3⟩
     have D3:=hidP (D2.out.trans (hb3.mono D2.out.size))
     have f0:=zaa hb3 d0
     have f2:=zaa hb3 d2
     have hs3:=hb3.size
     clear hb3 HWH d0 d1 d2 d3 d4 d5 D2
     go_upto_region 5 with fail
     refine zaj ?_
     intro w4 hW4 hq4
     have D4:=hidP (D3.out.trans (hW4.mono D3.out.size))
     have g0:=zaa hW4 f0
     have g2:=zaa hW4 f2
     have hs4:=hW4.size
     clear hW4 hq4 f0 f2 D3
     go_wp2_with fail
     go_roundw
     case rel=>exact ⟨k+1,va',vc',U,by go_num,by omega,HN.out,PR.out.bel D4.out,zag OR.out D4.out,FPR.out.bel D4.out,HRB.out,by have:=D4.out.size;omega,AR.out.trans (D4.out.mono AR.out.size)⟩
     case measure=>(simp [intOf];omega)
    | none=>
     rw [hlk] at HWH
     unfold whV at HWH
     clear hlk hk2
     go_wp2_with fail
     refine HWH.out.mono ?_
     rintro e w3 ⟨rfl,hb3⟩
     have D3:=hidP (D2.out.trans (hb3.mono D2.out.size))
     have f0:=zaa hb3 d0
     have f2:=zaa hb3 d2
     have hs3:=hb3.size
     clear hb3 HWH d0 d1 d2 d3 d4 d5 D2
     go_upto_region 5 with fail
     refine zaj ?_
     intro w4 hW4 hq4
     have D4:=hidP (D3.out.trans (hW4.mono D3.out.size))
     have g0:=zaa hW4 f0
     have g2:=zaa hW4 f2
     have hs4:=hW4.size
     clear hW4 hq4 f0 f2 D3
     go_wp2_with fail
     go_roundw
     case rel=>exact ⟨k+1,va',vc',U,by go_num,by omega,HN.out,PR.out.bel D4.out,zag OR.out D4.out,FPR.out.bel D4.out,HRB.out,by have:=D4.out.size;omega,AR.out.trans (D4.out.mono AR.out.size)⟩
     case measure=>(simp [intOf];omega)
  ·have hke:k=p.terms.length:=by omega
   subst hke
   have hy:¬ (p.terms.length:Int)<(p.terms.length:Int):=by omega
   go_wp2_with fail
   go_end0
   refine ⟨rfl,?_,FPR.out,AR.out⟩
   rw [HU.out]
   exact ⟨va',vc',PR.out,OR.out,HRB.out⟩
end Go.Proofs.YtmmdlgjmplddiaaGreat
namespace Go.Proofs.YtmmdlgjmplddiaaGreat
def zdB (T:List F) (v:Vr):V:=(((T[v.fact]?.map (·.slots)).getD [])[v.slot]?.getD (0,0,⟨#[]⟩))
def envB (T:List F) (vs:List Vr):List Bd:=vs.map (fun v=>⟨v.name,zdB T v⟩)
theorem zc2 (T:List F) (s:ByteArray):∀ vs:List Vr,zbl (envB T vs) s=(zaT vs s).map (zdB T)
 | []=>rfl
 | v :: r=>by
  have ih:=zc2 T s r
  unfold envB at ih ⊢
  rw [List.map_cons,zci,zcX]
  by_cases h:v.name=s
  ·rw [if_pos h,if_pos h];rfl
  ·rw [if_neg h,if_neg h];exact ih
theorem zdm (s:ByteArray) (b:List Bd):∀ a:List Bd,zbl (a ++ b) s=(match zbl a s with | some x=>some x | none=>zbl b s)
 | []=>rfl
 | x :: r=>by
  rw [List.cons_append,zci,zci]
  by_cases h:x.var=s
  ·rw [if_pos h,if_pos h]
  ·rw [if_neg h,if_neg h];exact zdm s b r
theorem zd4 (name:ByteArray) (t:Tm):∀ (l:List Tm) (k:Nat),za6 name (l ++ [t]) k=(match za6 name l k with | some j=>some j | none=>if ze8 name t=true then some (k+l.length) else none)
 | [],k=>by
  rw [List.nil_append,zbi]
  simp [za6]
 | x :: r,k=>by
  rw [List.cons_append,zbi,zbi]
  by_cases h:ze8 name x=true
  ·rw [if_pos h,if_pos h]
  ·rw [if_neg h,if_neg h,zd4 name t r (k+1),List.length_cons,show k+1+r.length=k+(r.length+1) by omega]
theorem zbv {ts:List Tm}{i:Nat}{t:Tm} (h:ts[i]?=some t) (name:ByteArray):earlier ts (i+1) name=(match earlier ts i name with | some j=>some j | none=>if ze8 name t=true then some i else none):=by
 have hi:i<ts.length:=(List.getElem?_eq_some_iff.1 h).1
 unfold earlier
 rw [List.take_add_one,h]
 show za6 name (ts.take i ++ [t]) 0=_
 rw [zd4]
 simp [Nat.min_eq_left (Nat.le_of_lt hi)]
def newB (bs:List Bd) (ts:List Tm) (sl:List V):Nat→List Bd
 | 0=>[]
 | i+1=>newB bs ts sl i ++ (match ts[i]?,sl[i]? with | some t,some v=>if t.kind=2∧zbl bs t.var=none∧earlier ts i t.var=none then [⟨t.var,v⟩] else [] | _,_=>[])
theorem zdR {bs:List Bd}{ts:List Tm}{sl:List V}{i:Nat}{t:Tm}{v:V} (h:ts[i]?=some t) (hv:sl[i]?=some v):newB bs ts sl (i+1)=newB bs ts sl i ++ (if t.kind=2∧zbl bs t.var=none∧earlier ts i t.var=none then [⟨t.var,v⟩] else []):=by
 simp [newB,h,hv]
theorem zbm {name:ByteArray}{t:Tm}:ze8 name t=true ↔ t.kind=2∧t.var=name:=by
 unfold ze8
 rw [zaL]
 simp
theorem zcM {name:ByteArray}:∀ {l:List Tm}{s k:Nat},za6 name l s=some k→k<s+l.length
 | [],_,_,h=>by simp [za6] at h
 | t :: r,s,k,h=>by
  rw [zbi] at h
  split at h
  ·injection h with h
   subst h
   simp
  ·have:=zcM h
   simp
   omega
theorem zgu {bs:List Bd}{ts:List Tm}{sl:List V} (hl:ts.length=sl.length) {name:ByteArray} (hn:zbl bs name=none):∀ i,i≤ts.length→zbl (newB bs ts sl i) name=(earlier ts i name).bind (fun j=>sl[j]?)
 | 0,_=>by simp [newB,zbl,earlier,za6]
 | i+1,hi=>by
  obtain ⟨t,ht⟩:∃ t,ts[i]?=some t:=⟨ts[i],by simp⟩
  obtain ⟨v,hv⟩:∃ v,sl[i]?=some v:=⟨sl[i],by simp⟩
  have ih:=zgu hl hn i (by omega)
  rw [zdR ht hv,zdm,ih,zbv ht]
  cases he:earlier ts i name with
  | some j=>
   have hj:j<ts.length:=by
    have:=zcM he
    simp at this
    omega
   simp [show j<sl.length by omega]
  | none=>
   simp only [Option.bind_none]
   by_cases h2:ze8 name t=true
   ·obtain ⟨k2,kv⟩:=zbm.1 h2
    subst kv
    rw [if_pos ⟨k2,hn,he⟩,if_pos h2,zci,if_pos rfl]
    simp [hv]
   ·rw [if_neg h2]
    by_cases h3:t.kind=2∧zbl bs t.var=none∧earlier ts i t.var=none
    ·rw [if_pos h3,zci,if_neg (fun e=>h2 (zbm.2 ⟨h3.1,e⟩))]
     rfl
    ·rw [if_neg h3]
     rfl
end Go.Proofs.YtmmdlgjmplddiaaGreat
namespace Go.Proofs.YtmmdlgjmplddiaaGreat
open Go.RowKit
attribute [local go_sem ↓] Go.wp_at_zero Go.wp_at_succ
def setP (i:Nat) (x p0 p1 p2:Value):Array Value:=#[if i=0 then x else p0,if i=1 then x else p1,if i=2 then x else p2]
set_option maxHeartbeats 3200000 in
theorem ziK (p0 p1 p2:Option Addr) (x:Option Addr) (i:Nat) (w:World) (hi:i<3) :
  Calls Tryz.prog 60 #[.agg #[.pointer p0,.pointer p1,.pointer p2],.int .i64 (i:Int),.pointer x] w fun e w'=>e=.returned (.agg (setP i (.pointer x) (.pointer p0) (.pointer p1) (.pointer p2)))∧Below w.heap.size w w':=by
 go_enter Tryz.func60,Tryz.ntmps60
 go_upto_region 1 with fail
 refine lift2P ?_
 intro w0 hW0 hq0 hq1
 have f0:∀ j,w0.frozen? ⟨w.heap.size,j,none⟩=false:=fun j=>by simp [World.frozen?,hq0]
 have g0:∀ j,w0.frozen? ⟨w.heap.size+1,j,none⟩=false:=fun j=>by simp [World.frozen?,hq1]
 obtain ⟨a0,a1,a2⟩:=cells3P hq0
 obtain ⟨b0,b1,b2⟩:=cells3P hq1
 have x0:=f0 0
 have x1:=f0 1
 have x2:=f0 2
 have y0:=g0 0
 have y1:=g0 1
 have y2:=g0 2
 have B0:=hidP hW0
 have hl:w.heap.size+1<w0.heap.size:=zab hq1
 clear hW0 hq0 hq1 f0 g0
 rcases i with _ | _ | _ | i
 ·go_wp2_with fail
  refine bodyPost_ret (v:=.agg (setP 0 (.pointer x) (.pointer p0) (.pointer p1) (.pointer p2))) (by simp [results,Tryz.results60,go_sem,setP, *]) rfl ⟨rfl,?_⟩
  exact (((B0.out.setCell (by simp) _).setCell (by simp) _).setCell (by simp) _).setCell (by simp) _
 ·go_wp2_with fail
  refine bodyPost_ret (v:=.agg (setP 1 (.pointer x) (.pointer p0) (.pointer p1) (.pointer p2))) (by simp [results,Tryz.results60,go_sem,setP, *]) rfl ⟨rfl,?_⟩
  exact (((B0.out.setCell (by simp) _).setCell (by simp) _).setCell (by simp) _).setCell (by simp) _
 ·go_wp2_with fail
  refine bodyPost_ret (v:=.agg (setP 2 (.pointer x) (.pointer p0) (.pointer p1) (.pointer p2))) (by simp [results,Tryz.results60,go_sem,setP, *]) rfl ⟨rfl,?_⟩
  exact (((B0.out.setCell (by simp) _).setCell (by simp) _).setCell (by simp) _).setCell (by simp) _
 ·omega
end Go.Proofs.YtmmdlgjmplddiaaGreat
namespace Go.Proofs.YtmmdlgjmplddiaaGreat
open Go.RowKit
attribute [local go_sem ↓] Go.wp_at_zero Go.wp_at_succ
theorem cells2P' {w:World}{b:Nat}{ty:TypeId}{x0 x1:Value} (h:w.heap[b]?=some (.cells #[x0,x1] ty (0,0))):w.cell? ⟨b,0,none⟩=some x0∧w.cell? ⟨b,1,none⟩=some x1:=by
 refine ⟨?_,?_⟩ <;> simp [World.cell?,h]
set_option maxHeartbeats 1600000 in
theorem zkL (k nb:Nat) (ng ct ts:Value) (fa:Option Addr) (n fc:Nat) (w:World) (hn:w.cell? ⟨nb,4,none⟩=some (.slice fa n fc)) :
  Calls Tryz.prog 58 #[.agg #[.int .i64 (-1),.pointer none],.int .i64 (k:Int),.agg #[ng,ct,.pointer (some ⟨nb,0,none⟩),ts]] w fun e w'=>e=.returned (.slice fa n fc)∧Below w.heap.size w w':=by
 have e1:((k:Int) == -1)=false:=by simp
 go_enter Tryz.func58,Tryz.ntmps58
 go_upto_region 1 with fail
 refine lift2P ?_
 intro w0 hW0 hq0 hq1
 obtain ⟨a0,a1⟩:=cells2P' hq0
 obtain ⟨_,_,c2,_⟩:=cells4P hq1
 have n4:=zaa hW0 hn
 have B0:=hidP hW0
 clear hW0 hq0 hq1 hn
 go_wp2_with fail
 go_ret
 exact ⟨rfl,B0.out⟩
set_option maxHeartbeats 1600000 in
theorem zku (k:Nat) (ng ct nd ts p0 p1 p2:Value) (w:World) :
  Calls Tryz.prog 56 #[.agg #[.int .i64 (-1),.pointer none],.int .i64 (k:Int),.agg #[ng,ct,nd,ts],.agg #[p0,p1,p2]] w fun e w'=>e=.returned (.bool false)∧Below w.heap.size w w':=by
 have e1:((k:Int) == -1)=false:=by simp
 go_enter Tryz.func56,Tryz.ntmps56
 go_upto_region 1 with fail
 refine lift3P ?_
 intro w0 hW0 hq0 hq1 hq2
 obtain ⟨a0,a1⟩:=cells2P' hq0
 have B0:=hidP hW0
 clear hW0 hq0 hq1 hq2
 go_wp2_with fail
 go_ret
 exact ⟨rfl,B0.out⟩
end Go.Proofs.YtmmdlgjmplddiaaGreat
