/-
  OUR OWN TEXT. Mm3, Mm4, one behind the other.
-/
import Derived.Test.YtmmdlgjmplddiaaGreatKbk
namespace Go.Proofs.YtmmdlgjmplddiaaGreat
open Go.RowKit
attribute [local go_sem ↓] Go.wp_at_zero Go.wp_at_succ
theorem zpf {a:Option Addr}{n c:Nat}{k:Nat}{w:World}{base:Nat}{e:TypeId}{m:Nat}{xs:List Value} (h:w.ownsRow base e m (.slice a n c) n xs) (hk:w.heap.size≤k):(Value.slice a n c).ownBlock≠some k:=fun e'=>by
 have:=(h.lt k e').2
 omega
set_option maxRecDepth 100000 in
set_option maxHeartbeats 12800000 in
theorem zkS (p:Pt) (fs:List F) (L:List PmX) (a_t:Option Addr) (c_t:Nat) (fa:Option Addr) (fc:Nat) (pa:Option Addr) (pc:Nat) {q:Option Nat}{b1 base:Nat} (w:World) (h_t:zcl q w a_t p.terms) (h_f:zaH w fa fs) (h_p:MO w b1 base pa pc L) (hbs:base≤w.heap.size) (ht6:p.terms.length≤6) (hf40:fs.length≤40) (hL:L.length≤200000000) (hX:∀ x∈L,x.1.tags.length≤900∧x.1.binds.length≤900) :
  Calls Tryz.prog 65 #[.agg #[.bool p.neg,.string p.cls,.slice a_t p.terms.length c_t],.slice fa fs.length fc,.slice pa L.length pc] w fun e w'=>(∃ a c M,e=.returned (.slice a M.length c)∧MO w' w.heap.size base a c M∧M.map Prod.fst=zbc p fs (L.map Prod.fst))∧Below w.heap.size w w':=by
 have HT:=hidM h_t
 have HF:=hidM h_f
 have HP:=hidM h_p
 have HX:=hidM hX
 clear h_t h_f h_p hX
 go_enter Tryz.func65,Tryz.ntmps65
 go_upto_region 1 with fail
 refine zaj ?_
 intro w0 hW0 hq0
 obtain ⟨pb0,pb1,pb2⟩:=cells3M hq0
 have H0:=hidM hW0
 have hs0:=hW0.size
 have hl0:w.heap.size<w0.heap.size:=zab hq0
 clear hW0 hq0
 go_wp2_with fail
 go_loopw [18,7] (fun iv ov wr=>∃ (k:Nat) (a:Option Addr) (c:Nat) (M:List PmX),iv=.int .i64 (k:Int)∧k≤L.length∧ov=.slice a M.length c∧M.map Prod.fst=zbc p fs ((L.map Prod.fst).take k)∧MO wr w0.heap.size base a c M∧Below w0.heap.size w0 wr) (fun iv _ _=>L.length - (intOf iv).toNat)
 case atStart=>exact ⟨0,none,0,[],rfl,Nat.zero_le _,rfl,rfl,MO.nil _ _ _,Below.refl _ _⟩
 case round=>
  obtain ⟨k,a,c,M,rfl,hkl,rfl,hM,hMO,hb⟩:=hrel
  have HM:=hidM hM
  have ROW:=hidM hMO
  have HBB:=hidM hb
  have HBW:=hidM (H0.out.trans (hb.mono H0.out.size))
  have hsr:=hb.size
  have hMl:M.length≤k * 41:=by
   have h1:=zdt p fs ((L.map Prod.fst).take k)
   have h2:=congrArg List.length hM
   simp at h1 h2
   have h3:min k L.length * (fs.length+1)≤k * 41:=Nat.mul_le_mul (Nat.min_le_left _ _) (by omega)
   omega
  clear hM hMO hb
  by_cases hk:k<L.length
  ·obtain ⟨x,hx⟩:∃ x,L[k]?=some x:=⟨L[k],by simp [hk]⟩
   obtain ⟨⟨tg,bd⟩,tv,bv⟩:=x
   obtain ⟨lb,rfl,hlb,y0,y1⟩:=HP.out.get hx
   have hXx:=HX.out _ (List.mem_of_getElem? hx)
   have PX:=hidM (HP.out.all _ (List.mem_of_getElem? hx))
   obtain ⟨⟨ta,tc,e1⟩,⟨ba,bc,e2⟩,hot,hob⟩:=PX.out
   simp only at e1 e2 hot hob y0 y1 hXx
   subst e1 e2
   obtain ⟨htl,hbl⟩:=hXx
   have OT:=hidM hot
   have OB:=hidM hob
   have HNS:=hidM (zj9 p fs (L.map Prod.fst) k ⟨tg,bd⟩ (by rw [List.getElem?_map,hx];rfl))
   have x0:=zaa HBW.out y0
   have x1:=zaa HBW.out y1
   have z0:(0:Int)≤(k:Int):=by omega
   have z1:(k:Int)<(L.length:Int):=by omega
   have hlr:lb<wr.heap.size:=by omega
   clear hx y0 y1 hot hob
   go_upto_region 5 with fail
   refine zaj ?_
   intro w2 hW2 hq2
   obtain ⟨pb,hpb⟩:∃ pb,pb=wr.heap.size:=⟨_,rfl⟩
   rw [← hpb] at hq2 ⊢
   have BX2:=hidM hq2
   have R2:=hidM (ROW.out.bel hW2)
   have D2:=hidM (HBB.out.trans (hW2.mono HBB.out.size))
   have N2:=hidM (zpf ROW.out.row (Nat.le_of_eq hpb.symm))
   have hs2:=hW2.size
   have hl2:pb<w2.heap.size:=zab hq2
   have hl2':w0.heap.size≤pb:=by omega
   clear hW2 hq2 x0 x1 ROW HBB HBW hlr hsr hpb
   go_wp2_with fail
   go_loopw [24,7,10] (fun jv ov av wq=>∃ (j:Nat) (a:Option Addr) (c:Nat) (M2:List PmX) (g:Bool),jv=.int .i64 (j:Int)∧j≤fs.length∧ov=.slice a M2.length c∧av=.bool g∧g=anyH p ⟨tg,bd⟩ (fs.take j)∧M2.map Prod.fst=zbc p fs ((L.map Prod.fst).take k) ++ zcT p ⟨tg,bd⟩ (fs.take j)∧MO wq w0.heap.size base a c M2∧(Value.slice a M2.length c).ownBlock≠some pb∧wq.heap[pb]?=some (.cells #[.slice ta tg.length tc,.slice ba bd.length bc] 91 (0,0))∧Below w0.heap.size w0 wq∧w2.heap.size≤wq.heap.size) (fun jv _ _ _=>fs.length - (intOf jv).toNat)
   case atStart=>exact ⟨0,a,c,M,false,rfl,Nat.zero_le _,rfl,rfl,by simp [anyH,hits],by rw [HM.out,show zcT p ⟨tg,bd⟩ (fs.take 0)=[] by unfold zcT;simp [hits]];simp,R2.out,N2.out,BX2.out,D2.out,Nat.le_refl _⟩
   case round=>
    obtain ⟨j,a,c,M2,g,rfl,hjl,rfl,rfl,hg,hM2,hMO,hne,hbx,hb,hwq⟩:=hrel
    obtain ⟨wq,rfl⟩:∃ v,v=wr:=⟨wr,rfl⟩
    have HM2:=hidM hM2
    have HG:=hidM hg
    have Rq:=hidM hMO
    have Nq:=hidM hne
    have BXq:=hidM hbx
    have Dq:=hidM hb
    have HBW:=hidM (H0.out.trans (hb.mono H0.out.size))
    have hM2l:M2.length≤k * 41+40:=by
     have h1:=zdt p fs ((L.map Prod.fst).take k)
     have h2:=congrArg List.length hM2
     have h4:=zlF p ⟨tg,bd⟩ (fs.take j)
     simp at h1 h2 h4
     have h3:min k L.length * (fs.length+1)≤k * 41:=Nat.mul_le_mul (Nat.min_le_left _ _) (by omega)
     omega
    obtain ⟨v0,v1⟩:=cells2M BXq.out
    clear hM2 hMO hne hbx hb R2 N2 BX2 D2 hg
    by_cases hj:j<fs.length
    ·obtain ⟨f,hf⟩:∃ f,fs[j]?=some f:=⟨fs[j],by simp [hj]⟩
     obtain ⟨fb,fo,rfl,hfb,s0,s1,sa,sc,s2,hsl⟩:=(HF.out.below HBW.out).getM hf
     have HTK:=hidM (show fs.take (j+1)=fs.take j ++ [f] by rw [List.take_add_one,hf];rfl)
     have SL:=hidM hsl
     have pr0:=zaa Dq.out pb0
     have pr1:=zaa Dq.out pb1
     have pr2:=zaa Dq.out pb2
     have u0:(0:Int)≤(j:Int):=by omega
     have u1:(j:Int)<(fs.length:Int):=by omega
     have hlq:w.heap.size<wq.heap.size:=by omega
     have hlp:pb<wq.heap.size:=by omega
     clear hf hsl
     go_upto_region 9 with fail
     refine zaj ?_
     intro w4 hW4 hq4
     obtain ⟨f0,f1,f2⟩:=cells3M hq4
     have R4:=hidM (Rq.out.bel hW4)
     have BX4:=hidM ((hW4.block _ hlp).trans BXq.out)
     have D4:=hidM (Dq.out.trans (hW4.mono Dq.out.size))
     have W4:=hidM (H0.out.trans (D4.out.mono H0.out.size))
     have pw0:=zaa hW4 pr0
     have pw1:=zaa hW4 pr1
     have pw2:=zaa hW4 pr2
     have g0:=zaa hW4 v0
     have g1:=zaa hW4 v1
     have SL4:=hidM (SL.out.below hW4)
     have hs4:=hW4.size
     have hl4:wq.heap.size<w4.heap.size:=zab hq4
     clear hW4 hq4 pr0 pr1 pr2 v0 v1 s0 s1 s2 SL Rq BXq Dq HBW
     have HA:=hidM (zjc p f bd a_t c_t sa sc ba bc w4 (HT.out.below W4.out) SL4.out (zct.owns (zag OB.out W4.out)) ht6 (by omega))
     go_wp2_with fail
     refine HA.out.mono ?_
     intro e w5 hP
     clear HA
     cases hag:agree p f bd with
     | none=>
      obtain ⟨rfl,hb5⟩:=hP.elimNo hag
      have HSO:=hidM (show zcT p ⟨tg,bd⟩ (fs.take (j+1))=zcT p ⟨tg,bd⟩ (fs.take j) by rw [HTK.out];exact zmZ hag)
      have HAN:=hidM (show anyH p ⟨tg,bd⟩ (fs.take (j+1))=anyH p ⟨tg,bd⟩ (fs.take j) by rw [HTK.out];exact zoL hag)
      have R5:=hidM (R4.out.bel hb5)
      have BX5:=hidM ((hb5.block _ (by omega)).trans BX4.out)
      have D5:=hidM (D4.out.trans (hb5.mono D4.out.size))
      have W5:=hidM (H0.out.trans (D5.out.mono H0.out.size))
      have hs5:=hb5.size
      have q0:=zaa hb5 pw0
      have h0:=zaa hb5 g0
      have h1:=zaa hb5 g1
      have t0:=zaa hb5 f0
      clear hP hb5 pw0 pw1 pw2 g0 g1 f0 f1 f2 R4 BX4 D4 W4 SL4
      cases g
      ·have GN:=hidM (show false=anyH p ⟨tg,bd⟩ (fs.take (j+1)) by rw [HAN.out];exact HG.out)
       go_wp2_with fail
       go_roundw
       case rel=>exact ⟨j+1,a,c,M2,_,by go_num,by omega,rfl,rfl,GN.out,by rw [HM2.out,HSO.out],R5.out,Nq.out,BX5.out,D5.out,by omega⟩
       case measure=>(simp [intOf];omega)
      ·have GN:=hidM (show true=anyH p ⟨tg,bd⟩ (fs.take (j+1)) by rw [HAN.out];exact HG.out)
       go_wp2_with fail
       go_roundw
       case rel=>exact ⟨j+1,a,c,M2,_,by go_num,by omega,rfl,rfl,GN.out,by rw [HM2.out,HSO.out],R5.out,Nq.out,BX5.out,D5.out,by omega⟩
       case measure=>(simp [intOf];omega)
     | some o=>
      obtain ⟨oa,oc,rfl,hro,hb5⟩:=hP.elimYes hag
      have HAN:=hidM (show anyH p ⟨tg,bd⟩ (fs.take (j+1))=true by rw [HTK.out];exact zmW hag)
      have R5:=hidM (R4.out.bel hb5)
      have BX5:=hidM ((hb5.block _ (by omega)).trans BX4.out)
      have D5:=hidM (D4.out.trans (hb5.mono D4.out.size))
      have W5:=hidM (H0.out.trans (D5.out.mono H0.out.size))
      have hs5:=hb5.size
      have q0:=zaa hb5 pw0
      have h0:=zaa hb5 g0
      have h1:=zaa hb5 g1
      have t0:=zaa hb5 f0
      clear hP hb5 pw0 pw1 pw2 g0 g1 f0 f1 f2 R4 BX4 D4 W4 SL4
      rcases (show p.neg=false∨p.neg=true by cases p.neg <;> simp) with hneg | hneg
      ·have HSO:=hidM (show zcT p ⟨tg,bd⟩ (fs.take (j+1))=zcT p ⟨tg,bd⟩ (fs.take j) ++ [⟨tg ++ [f.tag],o⟩] by rw [HTK.out];exact zkY hneg hag)
       rw [hneg] at q0
       clear hag hneg
       cases g
       ·have GN:=hidM (show true=anyH p ⟨tg,bd⟩ (fs.take (j+1)) by rw [HAN.out])
        have OT5:=hidM (zag OT.out W5.out)
        have OO:=hidM hro
        have hw5:w0.heap.size≤w5.heap.size:=D5.out.size
        go_upto_region 14 with (first | (at_builtin;refine zad (by rfl) (.tmp 46) (.tmp 48) 39 (by rfl) w5.heap.size 3 _ 1 8 Tryz.underlying39 zev (by rfl) (by omega) _ 0 [] (by rfl) (World.ownsRow_nil _ _ _ _) ta tg.length tc (by rfl) (icells tg) (znR _) (znM OT5.out) (fun ad e=>zpk OT5.out ad e) (znT _) (by unfold maxLen;omega) (by omega) (Nat.le_refl _) ?_;intro a1 c1 w6 ho1 hg1 hl1) | fail)
        have B6:=hidM (show Below w5.heap.size w5 w6 from ⟨hg1.out.os,hg1.out.tape,hg1.out.output,hg1.out.size,fun k hk=>hg1.out.block k hk (fun e=>by cases e)⟩)
        have T6:=hidM (show w6.ownsRow w5.heap.size 3 1 (.slice a1 tg.length c1) tg.length (icells tg) by have:=ho1.out;simpa using this)
        have r0:=zaa B6.out t0
        have hs6:=B6.out.size
        have HW6:=hidM (fun o'=>(Below.refl _ _).alloc (Nat.le_refl _) o':∀ o',Below w6.heap.size w6 (w6.alloc o'))
        clear ho1 hg1 hl1 OT5 hro
        go_wp2_with (first | (at_builtin;refine zad (by rfl) (.tmp 51) (.tmp 54) 39 (by rfl) w5.heap.size 3 _ 1 8 Tryz.underlying39 zev (by rfl) (by omega) _ tg.length _ (by rfl) (zag T6.out (HW6.out _)) (some ⟨_,0,none⟩) 1 1 (by rfl) [.int .i64 f.tag] (by rfl) (fun e=>by cases e) (zav _ _ _ _ (by simp)) (by intro u hu;simp at hu;subst hu;rfl) (by unfold maxLen;omega) (by omega) (by simp;omega) ?_;intro a2 c2 w7 ho2 hg2 hl2;have T7:=hidM (show w7.ownsRow w5.heap.size 3 1 (.slice a2 (tg.length+1) c2) (tg.length+1) (icells (tg ++ [f.tag])) by have:=ho2.out;rw [zfm];simpa using this);have B7:=hidM ((B6.out.trans ((HW6.out _).mono B6.out.size)).grown hg2.out (by simp;omega) (fun g hg=>(T6.out.lt g hg).1));have R7:=hidM (R5.out.bel B7.out);have BX7:=hidM ((B7.out.block _ (by omega)).trans BX5.out);have D7:=hidM (D5.out.trans (B7.out.mono D5.out.size));have hs7:=B7.out.size;have OO7:=hidM (zag OO.out B7.out);have NX:=hidM (show PmP w7 base (⟨tg ++ [f.tag],o⟩,.slice a2 (tg.length+1) c2,.slice oa o.length oc) from ⟨⟨a2,c2,by simp⟩,⟨oa,oc,rfl⟩,by simpa using zan T7.out (by omega),zan OO7.out (by omega)⟩);have HW7:=hidM (fun o'=>(Below.refl _ _).alloc (Nat.le_refl _) o':∀ o',Below w7.heap.size w7 (w7.alloc o'));clear ho2 hg2 hl2 T6 HW6 B6 R5 BX5 D5) | (at_builtin;refine zad (by rfl) (.tmp 50) (.tmp 58) 86 (by rfl) w0.heap.size 91 _ 2 48 Tryz.underlying86 zi1 (by rfl) (by omega) _ M2.length _ (by rfl) (zag R7.out.row (HW7.out _)) (some ⟨_,0,none⟩) 1 1 (by rfl) (zcN (⟨tg ++ [f.tag],o⟩,.slice a2 (tg.length+1) c2,.slice oa o.length oc)) (by rfl) (fun e=>by cases e) (zav _ _ _ _ (by simp)) (zdH NX.out) (by unfold maxLen;omega) (by omega) (by simp;omega) ?_;intro a3 c3 w8 ho3 hg3 hl3) | fail)
        have R8:=hidM (MO.snoc (R7.out.bel (HW7.out _)) (NX.out.bel (HW7.out _)) ho3.out hg3.out)
        have D8:=hidM ((D7.out.trans ((HW7.out _).mono D7.out.size)).grown hg3.out (by simp;omega) (fun g hg=>(R7.out.row.lt g hg).1))
        have BX8:=hidM ((hg3.out.block pb (by simp;omega) (Ne.symm Nq.out)).trans (((HW7.out _).block pb (by omega)).trans BX7.out))
        have N8:=hidM (show (Value.slice a3 (M2 ++ [((⟨tg ++ [f.tag],o⟩,.slice a2 (tg.length+1) c2,.slice oa o.length oc):PmX)]).length c3).ownBlock≠some pb by rw [List.length_append];rcases hl3.out with h | h <;> (rw [show (M2.length+List.length [((⟨tg ++ [f.tag],o⟩,.slice a2 (tg.length+1) c2,.slice oa o.length oc):PmX)])=M2.length+1 from rfl,h]) ; exact Nq.out;simp;omega)
        have hs8:=hg3.out.size
        simp at hs8
        clear ho3 hg3 hl3
        go_roundw
        case rel=>exact ⟨j+1,a3,c3,_,_,by go_num,by omega,by simp,rfl,GN.out,by rw [List.map_append,HM2.out,HSO.out];simp,R8.out,N8.out,BX8.out,D8.out,by omega⟩
        case measure=>(simp [intOf];omega)
       ·have GN:=hidM (show true=anyH p ⟨tg,bd⟩ (fs.take (j+1)) by rw [HAN.out])
        have OT5:=hidM (zag OT.out W5.out)
        have OO:=hidM hro
        have hw5:w0.heap.size≤w5.heap.size:=D5.out.size
        go_upto_region 14 with (first | (at_builtin;refine zad (by rfl) (.tmp 46) (.tmp 48) 39 (by rfl) w5.heap.size 3 _ 1 8 Tryz.underlying39 zev (by rfl) (by omega) _ 0 [] (by rfl) (World.ownsRow_nil _ _ _ _) ta tg.length tc (by rfl) (icells tg) (znR _) (znM OT5.out) (fun ad e=>zpk OT5.out ad e) (znT _) (by unfold maxLen;omega) (by omega) (Nat.le_refl _) ?_;intro a1 c1 w6 ho1 hg1 hl1) | fail)
        have B6:=hidM (show Below w5.heap.size w5 w6 from ⟨hg1.out.os,hg1.out.tape,hg1.out.output,hg1.out.size,fun k hk=>hg1.out.block k hk (fun e=>by cases e)⟩)
        have T6:=hidM (show w6.ownsRow w5.heap.size 3 1 (.slice a1 tg.length c1) tg.length (icells tg) by have:=ho1.out;simpa using this)
        have r0:=zaa B6.out t0
        have hs6:=B6.out.size
        have HW6:=hidM (fun o'=>(Below.refl _ _).alloc (Nat.le_refl _) o':∀ o',Below w6.heap.size w6 (w6.alloc o'))
        clear ho1 hg1 hl1 OT5 hro
        go_wp2_with (first | (at_builtin;refine zad (by rfl) (.tmp 51) (.tmp 54) 39 (by rfl) w5.heap.size 3 _ 1 8 Tryz.underlying39 zev (by rfl) (by omega) _ tg.length _ (by rfl) (zag T6.out (HW6.out _)) (some ⟨_,0,none⟩) 1 1 (by rfl) [.int .i64 f.tag] (by rfl) (fun e=>by cases e) (zav _ _ _ _ (by simp)) (by intro u hu;simp at hu;subst hu;rfl) (by unfold maxLen;omega) (by omega) (by simp;omega) ?_;intro a2 c2 w7 ho2 hg2 hl2;have T7:=hidM (show w7.ownsRow w5.heap.size 3 1 (.slice a2 (tg.length+1) c2) (tg.length+1) (icells (tg ++ [f.tag])) by have:=ho2.out;rw [zfm];simpa using this);have B7:=hidM ((B6.out.trans ((HW6.out _).mono B6.out.size)).grown hg2.out (by simp;omega) (fun g hg=>(T6.out.lt g hg).1));have R7:=hidM (R5.out.bel B7.out);have BX7:=hidM ((B7.out.block _ (by omega)).trans BX5.out);have D7:=hidM (D5.out.trans (B7.out.mono D5.out.size));have hs7:=B7.out.size;have OO7:=hidM (zag OO.out B7.out);have NX:=hidM (show PmP w7 base (⟨tg ++ [f.tag],o⟩,.slice a2 (tg.length+1) c2,.slice oa o.length oc) from ⟨⟨a2,c2,by simp⟩,⟨oa,oc,rfl⟩,by simpa using zan T7.out (by omega),zan OO7.out (by omega)⟩);have HW7:=hidM (fun o'=>(Below.refl _ _).alloc (Nat.le_refl _) o':∀ o',Below w7.heap.size w7 (w7.alloc o'));clear ho2 hg2 hl2 T6 HW6 B6 R5 BX5 D5) | (at_builtin;refine zad (by rfl) (.tmp 50) (.tmp 58) 86 (by rfl) w0.heap.size 91 _ 2 48 Tryz.underlying86 zi1 (by rfl) (by omega) _ M2.length _ (by rfl) (zag R7.out.row (HW7.out _)) (some ⟨_,0,none⟩) 1 1 (by rfl) (zcN (⟨tg ++ [f.tag],o⟩,.slice a2 (tg.length+1) c2,.slice oa o.length oc)) (by rfl) (fun e=>by cases e) (zav _ _ _ _ (by simp)) (zdH NX.out) (by unfold maxLen;omega) (by omega) (by simp;omega) ?_;intro a3 c3 w8 ho3 hg3 hl3) | fail)
        have R8:=hidM (MO.snoc (R7.out.bel (HW7.out _)) (NX.out.bel (HW7.out _)) ho3.out hg3.out)
        have D8:=hidM ((D7.out.trans ((HW7.out _).mono D7.out.size)).grown hg3.out (by simp;omega) (fun g hg=>(R7.out.row.lt g hg).1))
        have BX8:=hidM ((hg3.out.block pb (by simp;omega) (Ne.symm Nq.out)).trans (((HW7.out _).block pb (by omega)).trans BX7.out))
        have N8:=hidM (show (Value.slice a3 (M2 ++ [((⟨tg ++ [f.tag],o⟩,.slice a2 (tg.length+1) c2,.slice oa o.length oc):PmX)]).length c3).ownBlock≠some pb by rw [List.length_append];rcases hl3.out with h | h <;> (rw [show (M2.length+List.length [((⟨tg ++ [f.tag],o⟩,.slice a2 (tg.length+1) c2,.slice oa o.length oc):PmX)])=M2.length+1 from rfl,h]) ; exact Nq.out;simp;omega)
        have hs8:=hg3.out.size
        simp at hs8
        clear ho3 hg3 hl3
        go_roundw
        case rel=>exact ⟨j+1,a3,c3,_,_,by go_num,by omega,by simp,rfl,GN.out,by rw [List.map_append,HM2.out,HSO.out];simp,R8.out,N8.out,BX8.out,D8.out,by omega⟩
        case measure=>(simp [intOf];omega)
      ·have HSO:=hidM (show zcT p ⟨tg,bd⟩ (fs.take (j+1))=zcT p ⟨tg,bd⟩ (fs.take j) by rw [zd8 hneg,zd8 hneg])
       rw [hneg] at q0
       clear hag hneg
       cases g
       ·have GN:=hidM (show true=anyH p ⟨tg,bd⟩ (fs.take (j+1)) by rw [HAN.out])
        go_wp2_with fail
        go_roundw
        case rel=>exact ⟨j+1,a,c,M2,_,by go_num,by omega,rfl,rfl,GN.out,by rw [HM2.out,HSO.out],R5.out,Nq.out,BX5.out,D5.out,by omega⟩
        case measure=>(simp [intOf];omega)
       ·have GN:=hidM (show true=anyH p ⟨tg,bd⟩ (fs.take (j+1)) by rw [HAN.out])
        go_wp2_with fail
        go_roundw
        case rel=>exact ⟨j+1,a,c,M2,_,by go_num,by omega,rfl,rfl,GN.out,by rw [HM2.out,HSO.out],R5.out,Nq.out,BX5.out,D5.out,by omega⟩
        case measure=>(simp [intOf];omega)
    ·have hje:j=fs.length:=by omega
     subst hje
     have hy:¬ (fs.length:Int)<(fs.length:Int):=by omega
     have HG':=hidM (show g=anyH p ⟨tg,bd⟩ fs by rw [HG.out,List.take_length])
     have HM3:=hidM (show M2.map Prod.fst=zbc p fs ((L.map Prod.fst).take k) ++ zcT p ⟨tg,bd⟩ fs by rw [HM2.out,List.take_length])
     have pr0:=zaa Dq.out pb0
     have hlq:w.heap.size<wq.heap.size:=by omega
     clear HG HM2
     rcases (show p.neg=false∨p.neg=true by cases p.neg <;> simp) with hneg | hneg
     ·have HNX:=hidM (show M2.map Prod.fst=zbc p fs ((L.map Prod.fst).take (k+1)) by rw [HM3.out,HNS.out,zkz hneg])
      rw [hneg] at pr0
      clear hneg
      go_wp2_with fail
      go_roundw
      case rel=>exact ⟨k+1,a,c,M2,by go_num,by omega,rfl,HNX.out,Rq.out,Dq.out⟩
      case measure=>(simp [intOf];omega)
     ·cases g
      ·have HNX:=hidM (show M2.map Prod.fst ++ [⟨tg,bd⟩]=zbc p fs ((L.map Prod.fst).take (k+1)) by rw [HM3.out,HNS.out,zgB hneg _ HG'.out,zd8 hneg];simp)
       rw [hneg] at pr0
       clear hneg
       have HWq:=hidM (fun o'=>(Below.refl _ _).alloc (Nat.le_refl _) o':∀ o',Below wq.heap.size wq (wq.alloc o'))
       have hwq0:w0.heap.size≤wq.heap.size:=Dq.out.size
       have PXq:=hidM (PX.out.bel HBW.out)
       go_wp2_with (first | (at_builtin;refine zad (by rfl) (.tmp 67) (.tmp 69) 86 (by rfl) w0.heap.size 91 _ 2 48 Tryz.underlying86 zi1 (by rfl) (by omega) _ M2.length _ (by rfl) (zag Rq.out.row (HWq.out _)) (some ⟨_,0,none⟩) 1 1 (by rfl) (zcN (⟨tg,bd⟩,.slice ta tg.length tc,.slice ba bd.length bc)) (by rfl) (fun e=>by cases e) (zav _ _ _ _ (by simp)) (zdH PX.out) (by unfold maxLen;omega) (by omega) (by simp;omega) ?_;intro a3 c3 w8 ho3 hg3 hl3) | fail)
       have R8:=hidM (MO.snoc (Rq.out.bel (HWq.out _)) (PXq.out.bel (HWq.out _)) ho3.out hg3.out)
       have D8:=hidM ((Dq.out.trans ((HWq.out _).mono Dq.out.size)).grown hg3.out (by simp;omega) (fun g hg=>(Rq.out.row.lt g hg).1))
       clear ho3 hg3 hl3
       go_roundw
       case rel=>exact ⟨k+1,a3,c3,_,by go_num,by omega,by simp,by rw [List.map_append];exact HNX.out,R8.out,D8.out⟩
       case measure=>(simp [intOf];omega)
      ·have HNX:=hidM (show M2.map Prod.fst=zbc p fs ((L.map Prod.fst).take (k+1)) by rw [HM3.out,HNS.out,zgB hneg _ HG'.out,zd8 hneg];simp)
       rw [hneg] at pr0
       clear hneg
       go_wp2_with fail
       go_roundw
       case rel=>exact ⟨k+1,a,c,M2,by go_num,by omega,rfl,HNX.out,Rq.out,Dq.out⟩
       case measure=>(simp [intOf];omega)
  ·have hke:k=L.length:=by omega
   subst hke
   have hy:¬ (L.length:Int)<(L.length:Int):=by omega
   have HR:=hidM (show M.map Prod.fst=zbc p fs (L.map Prod.fst) by rw [HM.out,List.take_of_length_le (by simp)])
   go_wp2_with fail
   go_ret
   exact ⟨⟨a,c,M,rfl,⟨zan ROW.out.row (by omega),ROW.out.all⟩,HR.out⟩,HBW.out⟩
end Go.Proofs.YtmmdlgjmplddiaaGreat
namespace Go.Proofs.YtmmdlgjmplddiaaGreat
open Go.RowKit
attribute [local go_sem ↓] Go.wp_at_zero Go.wp_at_succ
theorem zjo:∀ (ts:List Tm) (vs:List V) (out o:List Bd),agGo out ts vs=some o→o.length≤out.length+ts.length
 | [],_,out,o,h=>by
  simp only [agGo] at h
  injection h with h
  subst h
  simp
 | _ :: _,[],out,o,h=>by
  simp only [agGo] at h
  injection h with h
  subst h
  omega
 | t :: ts,v :: vs,out,o,h=>by
  rw [zdS] at h
  cases ha:agT out t v with
  | none=>rw [ha] at h;cases h
  | some o1=>
   rw [ha] at h
   have h1:=zoK ha
   have h2:=zjo ts vs o1 o h
   rw [List.length_cons]
   omega
theorem zma {p:Pt}{f:F}{bs o:List Bd} (h:agree p f bs=some o):o.length≤bs.length+p.terms.length:=by
 unfold agree at h
 split at h
 ·exact zjo _ _ _ _ h
 ·cases h
theorem zjE (p:Pt) (x:Pm):∀ (l:List F) (y:Pm),y∈hits p x l→∃ f∈l,∃ o,agree p f x.binds=some o∧y=⟨x.tags ++ [f.tag],o⟩
 | [],y,h=>by simp [hits] at h
 | f :: r,y,h=>by
  simp only [hits,List.mem_append] at h
  rcases h with h | h
  ·cases ha:agree p f x.binds with
   | none=>rw [ha] at h;simp at h
   | some o=>
    rw [ha] at h
    simp at h
    exact ⟨f,List.mem_cons_self,o,ha,h⟩
  ·obtain ⟨g,hg,o,h1,h2⟩:=zjE p x r y h
   exact ⟨g,List.mem_cons_of_mem _ hg,o,h1,h2⟩
theorem zfg {p:Pt}{fs:List F}{X:List Pm}{t b:Nat} (h:∀ x∈X,x.tags.length≤t∧x.binds.length≤b):∀ y∈zbc p fs X,y.tags.length≤t+1∧y.binds.length≤b+p.terms.length:=by
 intro y hy
 unfold zbc at hy
 obtain ⟨x,hx,hy⟩:=List.mem_flatMap.1 hy
 have:=h x hx
 unfold zcn at hy
 split at hy
 ·split at hy
  ·simp at hy
   subst hy
   omega
  ·simp at hy
 ·obtain ⟨f,_,o,ha,rfl⟩:=zjE p x fs y hy
  have:=zma ha
  simp
  omega
theorem zhz (fs:List F) (p:Pt):∀ (ps:List Pt) (xs:List Pm) (n:Nat),allM (ps ++ [p]) fs xs n=(zbc p fs (allM ps fs xs n).1,(allM ps fs xs n).2+(zbc p fs (allM ps fs xs n).1).length)
 | [],xs,n=>rfl
 | r :: ps,xs,n=>by
  simp only [List.cons_append,allM]
  exact zhz fs p ps _ _
theorem zjY (fs:List F) (hf:fs.length≤40):∀ (ps:List Pt) (xs:List Pm) (n:Nat),(allM ps fs xs n).1.length≤xs.length * 41 ^ ps.length
 | [],xs,n=>by simp [allM]
 | r :: ps,xs,n=>by
  have h1:=zjY fs hf ps (zbc r fs xs) (n+(zbc r fs xs).length)
  have h2:=zdt r fs xs
  simp only [allM,List.length_cons,Nat.pow_succ]
  have h3:xs.length * (fs.length+1)≤xs.length * 41:=Nat.mul_le_mul (Nat.le_refl _) (by omega)
  have h4:(zbc r fs xs).length * 41 ^ ps.length≤xs.length * 41 * 41 ^ ps.length:=Nat.mul_le_mul (by omega) (Nat.le_refl _)
  have h5:xs.length * (41 ^ ps.length * 41)=xs.length * 41 * 41 ^ ps.length:=by rw [Nat.mul_comm (41 ^ ps.length),Nat.mul_assoc]
  omega
theorem pow41 {k:Nat} (h:k≤5):41 ^ k≤115856201:=by
 have:41 ^ k≤41 ^ 5:=Nat.pow_le_pow_right (by omega) h
 simpa using this
def zjW (ps:List Pt) (fs:List F) (w:World) (e:Ending) (w':World):Prop:=
 (∃ a c M,e=.returned (.tuple #[.slice a M.length c,.int .i64 ((allM ps fs [⟨[],[]⟩] 0).2:Nat)])∧MO w' w.heap.size w.heap.size a c M∧M.map Prod.fst=(allM ps fs [⟨[],[]⟩] 0).1)∧Below w.heap.size w w'
theorem zjW.mk {ps:List Pt}{fs:List F}{w w':World}{a:Option Addr}{c n:Nat}{M:List PmX} (h1:n=(allM ps fs [⟨[],[]⟩] 0).2) (h2:MO w' w.heap.size w.heap.size a c M) (h3:M.map Prod.fst=(allM ps fs [⟨[],[]⟩] 0).1) (h4:Below w.heap.size w w'):zjW ps fs w (.returned (.tuple #[.slice a M.length c,.int .i64 (n:Int)])) w':=by
 subst h1
 exact ⟨⟨a,c,M,rfl,h2,h3⟩,h4⟩
theorem MO.first (w:World) {b1 base k:Nat} (h1:b1≤k) (h:w.heap[k]?=some (.cells #[.slice none 0 0,.slice none 0 0] 91 (0,0))):MO w b1 base (some ⟨k,0,none⟩) 1 [((⟨[],[]⟩,.slice none 0 0,.slice none 0 0):PmX)]:=
 ⟨⟨rfl,.inr ⟨k,1,_,rfl,h1,h,Nat.le_refl _,by unfold maxLen;omega,rfl,rfl⟩⟩,fun x hx=>by
  simp at hx
  subst hx
  exact ⟨⟨none,0,rfl⟩,⟨none,0,rfl⟩,World.ownsRow_nil _ _ _ _,World.ownsRow_nil _ _ _ _⟩⟩
set_option maxRecDepth 100000 in
set_option maxHeartbeats 12800000 in
theorem zlO (r:Ru) (fs:List F) (a_p:Option Addr) (c_p:Nat) (a_e:Option Addr) (c_e:Nat) (a_a:Option Addr) (c_a:Nat) (fa:Option Addr) (fc:Nat) {q:Option Nat} (w:World) (h_p:zcf q w a_p r.pats) (h_f:zaH w fa fs) (hp6:r.pats.length≤6) (ht6:∀ p∈r.pats,p.terms.length≤6) (hf40:fs.length≤40) :
  Calls Tryz.prog 28 #[.agg #[.string r.name,.int .i64 r.sal,.slice a_p r.pats.length c_p,.slice a_e r.exprs.length c_e,.slice a_a r.acts.length c_a],.slice fa fs.length fc] w (zjW r.pats fs w):=by
 have HP:=hidM h_p
 have HF:=hidM h_f
 have HT6:=hidM ht6
 clear h_p h_f ht6
 go_enter Tryz.func28,Tryz.ntmps28
 go_upto_region 2 with fail
 refine zjm ?_
 intro w0 hW0 hq1 hq2
 have hr2:w0.cell? ⟨w.heap.size,2,none⟩=some (.slice a_p r.pats.length c_p):=by simp [World.cell?,hq1]
 have H0:=hidM hW0
 have M0:=hidM (MO.first (base:=w.heap.size) w0 (Nat.le_succ w.heap.size) hq2)
 have hs0:=hW0.size
 have hl0:w.heap.size+1<w0.heap.size:=zab hq2
 clear hW0 hq1 hq2
 go_wp2_with fail
 clear hr2
 go_loopw [15,6,7] (fun iv pv nv wr=>∃ (k:Nat) (a:Option Addr) (c:Nat) (M:List PmX) (n:Nat),iv=.int .i64 (k:Int)∧k≤r.pats.length∧pv=.slice a M.length c∧nv=.int .i64 (n:Int)∧n≤k * 4750104241∧allM (r.pats.take k) fs [⟨[],[]⟩] 0=(M.map Prod.fst,n)∧(∀ x∈M,x.1.tags.length≤k∧x.1.binds.length≤6 * k)∧MO wr w.heap.size w.heap.size a c M∧Below w.heap.size w wr∧w0.heap.size≤wr.heap.size) (fun iv _ _ _=>r.pats.length - (intOf iv).toNat)
 case atStart=>exact ⟨0,_,1,[((⟨[],[]⟩,.slice none 0 0,.slice none 0 0):PmX)],0,rfl,Nat.zero_le _,rfl,rfl,Nat.zero_le _,rfl,by intro x hx;simp at hx;subst hx;simp,M0.out,H0.out,Nat.le_refl _⟩
 case round=>
  obtain ⟨k,a,c,M,n,rfl,hkl,rfl,rfl,hn,hG,hsm,hMO,hb,hwr⟩:=hrel
  have HG:=hidM hG
  have HSM:=hidM hsm
  have ROW:=hidM hMO
  have HBB:=hidM hb
  have hsr:=hb.size
  have hMl:M.length≤41 ^ k:=by
   have h1:=zjY fs hf40 (r.pats.take k) [⟨[],[]⟩] 0
   rw [hG] at h1
   simp [Nat.min_eq_left hkl] at h1
   exact h1
  clear hG hsm hMO hb M0
  by_cases hk:k<r.pats.length
  ·obtain ⟨p,hp⟩:∃ p,r.pats[k]?=some p:=⟨r.pats[k],by simp [hk]⟩
   obtain ⟨pb,po,a_t,c_t,rfl,_,d0,d1,d2,h_t,_⟩:=HP.out.getC hp
   have e0:=zaa HBB.out d0
   have e1:=zaa HBB.out d1
   have e2:=zaa HBB.out d2
   have HTM:=hidM h_t
   have hp5:=HT6.out p (List.mem_of_getElem? hp)
   have h41:=pow41 (show k≤5 by omega)
   have HGS:=hidM (show allM (r.pats.take (k+1)) fs [⟨[],[]⟩] 0=(zbc p fs (M.map Prod.fst),n+(zbc p fs (M.map Prod.fst)).length) by rw [List.take_add_one,hp];show allM (r.pats.take k ++ [p]) fs _ 0=_;rw [zhz,HG.out])
   have z0:(0:Int)≤(k:Int):=by omega
   have z1:(k:Int)<(r.pats.length:Int):=by omega
   clear d0 d1 d2 h_t hp HG
   go_upto_region 6 with fail
   refine zaj ?_
   intro w2 hW2 hq2
   obtain ⟨b0,b1,b2⟩:=cells3M hq2
   have R2:=hidM (ROW.out.bel hW2)
   have D2:=hidM (HBB.out.trans (hW2.mono HBB.out.size))
   have hs2:=hW2.size
   clear hW2 hq2 e0 e1 e2 ROW HBB
   have HN:=hidM (zkS p fs M a_t c_t fa fc a c w2 (HTM.out.below D2.out) (HF.out.below D2.out) R2.out (by omega) hp5 hf40 (by omega) (fun x hx=>by have:=HSM.out x hx;omega))
   go_wp2_with fail
   refine HN.out.mono ?_
   rintro e w3 ⟨⟨a3,c3,M3,rfl,hM3,hm3⟩,hb3⟩
   have R3:=hidM (show MO w3 w.heap.size w.heap.size a3 c3 M3 from ⟨zan hM3.row (by omega),hM3.all⟩)
   have D3:=hidM (D2.out.trans (hb3.mono D2.out.size))
   have HM3:=hidM hm3
   have hlen:=congrArg List.length hm3
   rw [List.length_map] at hlen
   have hnl:=zdt p fs (M.map Prod.fst)
   rw [List.length_map] at hnl
   have hnl2:M.length * (fs.length+1)≤115856201 * 41:=Nat.mul_le_mul (by omega) (by omega)
   have hM3l:M3.length≤4750104241:=by omega
   have hs3:=hb3.size
   have HS3:=hidM (show ∀ x∈M3,x.1.tags.length≤k+1∧x.1.binds.length≤6 * (k+1) by
    intro x hx
    have h1:=zfg (p:=p) (fs:=fs) (X:=M.map Prod.fst) (t:=k) (b:=6 * k) (fun y hy=>by obtain ⟨z,hz,rfl⟩:=List.mem_map.1 hy;exact HSM.out z hz) x.1 (by rw [← hm3];exact List.mem_map_of_mem hx)
    omega)
   have w1:(-9223372036854775808:Int)≤(n:Int)+(M3.length:Int):=by omega
   have w2':(n:Int)+(M3.length:Int)≤9223372036854775807:=by omega
   have HLN:=hidM hlen
   clear hM3 hm3 hb3 HN hnl hnl2 hlen
   go_wp2_with fail
   go_roundw
   case rel=>exact ⟨k+1,a3,c3,M3,n+M3.length,by go_num,by omega,rfl,by go_num,by omega,by rw [HGS.out,HM3.out,HLN.out],HS3.out,R3.out,D3.out,by omega⟩
   case measure=>(simp [intOf];omega)
  ·have hke:k=r.pats.length:=by omega
   subst hke
   have hy:¬ (r.pats.length:Int)<(r.pats.length:Int):=by omega
   have HR:=hidM (show allM r.pats fs [⟨[],[]⟩] 0=(M.map Prod.fst,n) by rw [← HG.out,List.take_length])
   go_wp2_with fail
   refine bodyPost_ret (v:=.tuple #[.slice a M.length c,.int .i64 (n:Int)]) (by simp [results,Tryz.results28,go_sem]) rfl ?_
   exact zjW.mk (by rw [HR.out]) ROW.out (by rw [HR.out]) HBB.out
end Go.Proofs.YtmmdlgjmplddiaaGreat
