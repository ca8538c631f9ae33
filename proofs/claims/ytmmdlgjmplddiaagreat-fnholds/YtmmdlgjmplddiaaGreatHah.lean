/-
  OUR OWN TEXT. Dw10h, Dw10, Dw7, Hw, Dw11, Sz0, Sz1, Sz, To0, To1, To, Eq0, Eq1, Eq, Spec1, Sp20, one behind the other.
-/
import Derived.Test.YtmmdlgjmplddiaaGreatHaf
import Derived.Test.YtmmdlgjmplddiaaGreatDw9m
import Derived.Deep.DeepCutAuto
import Derived.Test.YtmmdlgjmplddiaaGreatRows
import Derived.Deep.RegionHeld3
import Derived.Deep.RegionLaw
import Derived.Test.YtmmdlgjmplddiaaGreatHaa
import Derived.Deep.DrawnRows
namespace Go.Proofs.YtmmdlgjmplddiaaGreat
open Go.RowKit
def MOk (M:List RuX):Prop:=∀ i x,M[i]?=some x→DRu i x.ru ∧ -9223372036854775808≤x.sal∧x.sal≤9223372036854775807
theorem MOk.snoc {M:List RuX}{x:RuX} (h:MOk M) (hx:DRu M.length x.ru) (hs:-9223372036854775808≤x.sal∧x.sal≤9223372036854775807):MOk (M ++ [x]):=by
 intro i y hy
 by_cases hi:i<M.length
 ·rw [List.getElem?_append_left hi] at hy
  exact h i y hy
 ·have hil:=(List.getElem?_eq_some_iff.1 hy).1
  simp at hil
  obtain rfl:i=M.length:=by omega
  simp at hy
  subst hy
  exact ⟨hx,hs⟩
theorem RuP.slices {w:World}{base:Nat}{x:RuX} (h:RuP w base x):(∃ a n c,x.pv=.slice a n c)∧(∃ a n c,x.ev=.slice a n c)∧∃ a n c,x.av=.slice a n c:=by
 obtain ⟨⟨a,c,e,_⟩,⟨a2,c2,e2,_⟩,a3,c3,e3,_⟩:=h
 exact ⟨⟨a,_,c,e⟩,⟨a2,_,c2,e2⟩,a3,_,c3,e3⟩
end Go.Proofs.YtmmdlgjmplddiaaGreat
namespace Go.Proofs.YtmmdlgjmplddiaaGreat
open Go.RowKit
attribute [local go_sem ↓] Go.wp_at_zero Go.wp_at_succ
theorem znl:(Tryz.prog.info? 35).map (fun i=>(i.zero,i.size,i.bytes))=some (some (.agg #[.string ⟨#[]⟩,.int .i64 0,.slice none 0 0,.slice none 0 0,.slice none 0 0]),5,96):=by kernel_rfl
set_option maxRecDepth 100000 in
set_option maxHeartbeats 3200000 in
theorem ze0 (g most:Nat) (w:World) (h:Rdr w g) (hm:1≤most) (hm9:most≤8) :
  Calls Tryz.prog 48 #[.pointer (some ⟨g,0,none⟩),.int .i64 (most:Int)] w fun e w'=>∃ a c M,e=.returned (.slice a (List.length M) c)∧1≤M.length∧M.length≤8∧MOk M∧RO w' w.heap.size a c M∧Rs g w w':=by
 have H:=hidR h
 have hlt:=h.lt
 clear h
 have hmI:¬ (most:Int)=0:=by omega
 go_enter Tryz.func48,Tryz.ntmps48
 go_wp2_with fail
 refine (zbf g w H.out).mono ?_
 rintro e w1 ⟨n1,hn1,rfl,hr1⟩
 have R1:=hidR hr1
 clear hr1 H
 obtain ⟨n0,hn0⟩:∃ n0,n0=1+n1 % most:=⟨_,rfl⟩
 have hn0e:1+(n1:Int) % (most:Int)=(n0:Int):=by rw [hn0];push_cast;rfl
 have hml:=Nat.mod_lt n1 (show 0<most by omega)
 have hn01:1≤n0∧n0≤8:=by omega
 clear hn0 hml
 go_wp2_with fail
 clear hn0e
 go_loopw [5,6] (fun ov nv wr=>∃ (j:Nat) (a:Option Addr) (c:Nat) (M:List RuX),nv=.int .i64 (j:Int)∧ov=.slice a M.length c∧M.length+j=n0∧MOk M∧RO wr w.heap.size a c M∧Rs g w wr) (fun _ nv _=>(intOf nv).toNat)
 case atStart=>exact ⟨n0,none,0,[],rfl,rfl,by simp,fun i x h=>by simp at h,RO.nil _ _,R1.out⟩
 case round=>
  obtain ⟨j,a,c,M,rfl,rfl,hj,hMK,hRO,hR⟩:=hrel
  have HMK:=hidR hMK
  clear hMK
  have HJ:=hidR hj
  have hj8:j≤8:=by omega
  have hM8:M.length≤8:=by omega
  have MO:=hidR hRO
  have R:=hidR hR
  have hsr:=hR.1.rest.size
  clear hj hRO hR R1
  by_cases hj0:j=0
  ·have hM1:1≤M.length:=by have:=HJ.out;omega
   clear HJ
   subst hj0
   go_wp2_with fail
   go_ret
   exact ⟨a,c,M,rfl,hM1,hM8,HMK.out,MO.out,R.out⟩
  ·have hj1:(0:Int)<(j:Int):=by omega
   go_wp2_with fail
   refine (zfM g M.length wr R.out.2 (by omega)).mono ?_
   rintro e w2 ⟨x,rfl,hDR,hsal,hRP,hr2⟩
   have HDR:=hidR hDR
   have HSL:=hidR hsal
   obtain ⟨⟨pa,pn,pc,hpv⟩,⟨ea,en,ec,hev⟩,aa,an,ac,hav⟩:=hRP.slices
   obtain ⟨nm,sal,pv,ev,av,pats,es,acts⟩:=x
   dsimp only at hpv hev hav
   subst hpv hev hav
   have MO2:=hidR (MO.out.rs hr2 hlt)
   have R2:=hidR (R.out.trans hr2)
   have PO2:=hidR (hRP.lower hsr)
   have hs2:=hr2.1.rest.size
   have HW:=hidR (fun o=>(Below.refl _ _).alloc (Nat.le_refl _) o:∀ o,Below w2.heap.size w2 (w2.alloc o))
   have TY:=hidR (fun o k hk=>zah (zai MO2.out.1 (HW.out o)) (k:=k) hk)
   clear hRP hr2 MO R hDR hsal
   unfold ruV
   go_wp2_with (first | (at_builtin;refine zae (by rfl) (.tmp 16) (.tmp 21) 23 (by rfl) w.heap.size 35 _ 5 96 Tryz.underlying23 znl (by rfl) (by omega) _ M.length _ (by rfl) (zai MO2.out.1 (HW.out _)) (some ⟨_,0,none⟩) 1 1 (by rfl) (rcells ⟨nm,sal,.slice pa pn pc,.slice ea en ec,.slice aa an ac,pats,es,acts⟩) (by rfl) (fun e=>by cases e) (zaw _ _ _ _ (by simp)) (by intro u hu;simp [rcells] at hu;rcases hu with rfl | rfl | rfl | rfl | rfl <;> rfl) (by unfold maxLen;omega) (by omega) (by simp;omega) ?_;intro a9 c9 w9 ho9 hg9 hl9) | fail)
   go_roundw
   case rel=>
    refine ⟨j - 1,a9,c9,M ++ [⟨nm,sal,.slice pa pn pc,.slice ea en ec,.slice aa an ac,pats,es,acts⟩],?_,by simp,by simp;have:=HJ.out;omega,HMK.out.snoc HDR.out HSL.out,⟨by simpa using ho9.out,fun x hx=>?_⟩,(R2.out.bel (HW.out _)).grown hg9.out (fun k hk=>(MO2.out.1.lt k hk).1) hlt⟩
    ·rw [show ((j - 1:Nat):Int)=(j:Int) - 1 by omega]
    ·have hx':RuP w2 w.heap.size x:=by
      rcases List.mem_append.1 hx with hx | hx
      ·exact MO2.out.2 x hx
      ·simp at hx
       subst hx
       exact PO2.out
     exact (hx'.same (Same.bel (HW.out _))).same (Same.grown hg9.out (TY.out _) (by decide))
   case measure=>(simp [intOf];omega)
end Go.Proofs.YtmmdlgjmplddiaaGreat
namespace Go.Proofs.YtmmdlgjmplddiaaGreat
open Go.RowKit
attribute [local go_sem ↓] Go.wp_at_zero Go.wp_at_succ
theorem zgb:(Tryz.prog.info? 109).map (fun i=>(i.zero,i.size,i.bytes))=some (some (.agg #[.int .i64 0,.int .i64 0,.string ⟨#[]⟩]),3,32):=by kernel_rfl
def FB (w:World) (fb B:Nat) (tag:Int) (cls:ByteArray) (a:Option Addr) (c:Nat) (vs:List V):Prop:=
 w.heap[fb]?=some (.cells #[.int .i64 tag,.string cls,.slice a vs.length c] 42 (0,0))∧w.ownsRow B 109 3 (.slice a vs.length c) vs.length (vs.flatMap V.cells)∧∀ v∈vs,VSm v
section
variable {w w' : World} {fb B : Nat} {tag : Int} {cls : ByteArray} {a : Option Addr} {c : Nat} {vs : List V}
theorem FB.rs {g:Nat} (h:FB w fb B tag cls a c vs) (hr:Rs g w w') (hf:fb≠g) (hg:g<B):FB w' fb B tag cls a c vs:=⟨zaC hr h.1 hf,zho h.2.1 hr hg,h.2.2⟩
theorem FB.bel (h:FB w fb B tag cls a c vs) (hb:Below w.heap.size w w'):FB w' fb B tag cls a c vs:=⟨(hb.block fb (zab h.1)).trans h.1,zai h.2.1 hb,h.2.2⟩
theorem FB.turned {d:Nat} (h:FB w fb B tag cls a c vs) (ht:Turned w w' d) (hd:d≠fb) (ho:∀ k,(Value.slice a vs.length c).ownBlock=some k→k≠d):FB w' fb B tag cls a c vs:=
 ⟨(ht.block fb (Ne.symm hd)).trans h.1,zaf h.2.1 (fun k hk=>ht.block k (ho k hk)),h.2.2⟩
theorem FB.cells (h:FB w fb B tag cls a c vs):w.cell? ⟨fb,0,none⟩=some (.int .i64 tag)∧w.cell? ⟨fb,1,none⟩=some (.string cls)∧w.cell? ⟨fb,2,none⟩=some (.slice a vs.length c):=by
 refine ⟨?_,?_,?_⟩ <;> simp [World.cell?,h.1]
end
theorem zjW {w wt wa w3:World}{fb B g:Nat}{tag:Int}{cls:ByteArray}{a a3:Option Addr}{c c3:Nat}{vs:List V}{v:V} (h:FB wt fb B tag cls a c vs) (hv:VSm v) (hR:Rs g w wt) (hwa:Below wt.heap.size wt wa) (ho:w3.ownsRow B 109 3 (.slice a3 (vs.length+1) c3) (vs.length+1) (vs.flatMap V.cells ++ V.cells v)) (hg:wa.grownBy w3 (Value.slice a vs.length c).ownBlock) (hB:w.heap.size≤B) (hfb:w.heap.size≤fb) (hgw:g<w.heap.size) :
  FB (w3.setCell ⟨fb,2,none⟩ (.slice a3 (vs.length+1) c3)) fb B tag cls a3 c3 (vs ++ [v])∧Rs g w (w3.setCell ⟨fb,2,none⟩ (.slice a3 (vs.length+1) c3)):=by
 have hA:=h.bel hwa
 have e3:=zaL hA.1 hg (fun k hk=>zah hA.2.1 hk) (by decide)
 have hr3:Rs g w w3:=(hR.bel hwa).grown hg (fun k hk=>Nat.le_trans hB (hA.2.1.lt k hk).1) hgw
 refine ⟨⟨?_,?_,?_⟩,hr3.setOwn hfb hgw⟩
 ·have:=zad (i:=2) e3 (.slice a3 (vs.length+1) c3)
  simpa using this
 ·have:=zbI (o:=2) (x:=.slice a3 (vs.length+1) c3) ho e3 (by decide)
  simpa using this
 ·intro x hx
  rcases List.mem_append.1 hx with h' | h'
  ·exact h.2.2 x h'
  ·simp at h'
   exact h' ▸ hv
theorem zd5 {wt wa w3:World}{fb B:Nat}{tag:Int}{cls:ByteArray}{a:Option Addr}{c:Nat}{vs:List V} (h:FB wt fb B tag cls a c vs) (hwa:Below wt.heap.size wt wa) (hg:wa.grownBy w3 (Value.slice a vs.length c).ownBlock) :
  w3.cell? ⟨fb,2,none⟩=some (.slice a vs.length c)∧w3.frozen? ⟨fb,2,none⟩=false:=by
 have hA:=h.bel hwa
 have e3:=zaL hA.1 hg (fun k hk=>zah hA.2.1 hk) (by decide)
 exact ⟨by simp [World.cell?,e3],by simp [World.frozen?,e3]⟩
theorem zmO {w:World}{base:Nat}{ta:Option Addr}{tc:Nat}{ts:List Tm} (h:w.ownsRow base 115 6 (.slice ta ts.length tc) ts.length (ts.flatMap za4)) {i:Nat}{t:Tm} (hi:ts[i]?=some t) :
  ∃ k,ta=some ⟨k,0,none⟩∧base≤k∧k<w.heap.size∧w.cell? ⟨k,i * 6,none⟩=some (.int .i64 t.kind)∧w.cell? ⟨k,i * 6+1,none⟩=some (.int .i64 t.op)∧w.cell? ⟨k,i * 6+2,none⟩=some (.string t.var)∧w.cell? ⟨k,i * 6+3,none⟩=some (.int .i64 t.val.kind)∧w.cell? ⟨k,i * 6+4,none⟩=some (.int .i64 t.val.num)∧w.cell? ⟨k,i * 6+5,none⟩=some (.string t.val.sym):=by
 have key:=fun j u (hj:(za4 t)[j]?=some u)=>zam h (zbe (cells:=za4) (m:=6) (fun _=>rfl) ts i t j u hi hj)
 obtain ⟨k,rfl,hb,h0,_⟩:=key 0 _ rfl
 obtain ⟨k1,e1,_,h1,_⟩:=key 1 _ rfl
 obtain ⟨k2,e2,_,h2,_⟩:=key 2 _ rfl
 obtain ⟨k3,e3,_,h3,_⟩:=key 3 _ rfl
 obtain ⟨k4,e4,_,h4,_⟩:=key 4 _ rfl
 obtain ⟨k5,e5,_,h5,_⟩:=key 5 _ rfl
 cases e1
 cases e2
 cases e3
 cases e4
 cases e5
 exact ⟨k,rfl,hb,World.block_lt_of_cell? w ⟨k,_,none⟩ h0,h0,h1,h2,h3,h4,h5⟩
theorem znE {w:World}{base:Nat}{a:Option Addr}{c:Nat}{vs:List V} (h:w.ownsRow base 109 3 (.slice a vs.length c) vs.length (vs.flatMap V.cells)) {i:Nat}{v:V} (hi:vs[i]?=some v) :
  ∃ k,a=some ⟨k,0,none⟩∧base≤k∧k<w.heap.size∧w.cell? ⟨k,i * 3,none⟩=some (.int .i64 v.kind)∧w.cell? ⟨k,i * 3+1,none⟩=some (.int .i64 v.num)∧w.cell? ⟨k,i * 3+2,none⟩=some (.string v.sym):=by
 have key:=fun j u (hj:(V.cells v)[j]?=some u)=>zam h (zbe (cells:=V.cells) (m:=3) (fun _=>rfl) vs i v j u hi hj)
 obtain ⟨k,rfl,hb,h0,_⟩:=key 0 _ rfl
 obtain ⟨k1,e1,_,h1,_⟩:=key 1 _ rfl
 obtain ⟨k2,e2,_,h2,_⟩:=key 2 _ rfl
 cases e1
 cases e2
 exact ⟨k,rfl,hb,World.block_lt_of_cell? w ⟨k,_,none⟩ h0,h0,h1,h2⟩
def fV (tag:Int) (cls:ByteArray) (x:Value):Value:=.agg #[.int .i64 tag,.string cls,x]
theorem znR:(Tryz.prog.info? 42).map (·.size)=some 3:=by kernel_rfl
set_option maxRecDepth 100000 in
set_option maxHeartbeats 6400000 in
theorem zjK (g base:Nat) (x:PtV) (tag:Int) (w:World) (h:Rdr w g) (hx:PtX w base x) :
  Calls Tryz.prog 85 #[.pointer (some ⟨g,0,none⟩),.agg #[.bool x.1.neg,.string x.1.cls,x.2],.int .i64 tag] w fun e w'=>∃ sa sc vs,e=.returned (fV tag x.1.cls (.slice sa vs.length sc))∧vs.length≤3∧w'.ownsRow w.heap.size 109 3 (.slice sa vs.length sc) vs.length ((vs:List V).flatMap V.cells)∧(∀ v∈vs,VSm v)∧Rs g w w':=by
 obtain ⟨⟨neg,cls,ts⟩,xv⟩:=x
 obtain ⟨⟨ta,tc,hxv⟩,hown,hcl,ht3,hsm⟩:=hx
 dsimp only at hxv hown hcl ht3 hsm ⊢
 subst hxv
 have H:=hidR h
 have HT:=hidR hown
 have HSM:=hidR hsm
 have HRD:=hidR h
 have hlt:=h.lt
 clear h hown hsm
 have HA0:=hidR (fun o1 o2 o3=>(((Below.refl _ _).alloc (Nat.le_refl _) o1).alloc (by simp) o2).alloc (by simp;omega) o3:∀ o1 o2 o3,Below w.heap.size w (((w.alloc o1).alloc o2).alloc o3))
 have HRB:=hidR (fun o1 o2 o3=>((Below.refl ((w.alloc o1).alloc o2).heap.size ((w.alloc o1).alloc o2)).alloc (Nat.le_refl _) o3).block (w.heap.size+1) (by simp) |>.trans (show ((w.alloc o1).alloc o2).heap[w.heap.size+1]?=some o2 from by have:=heap_alloc_new (w.alloc o1) o2;simpa using this))
 have HFB:=hidR (fun o1 o2 o3=>(show (((w.alloc o1).alloc o2).alloc o3).heap[w.heap.size+1+1]?=some o3 from by have:=heap_alloc_new ((w.alloc o1).alloc o2) o3;simpa using this))
 go_enter Tryz.func85,Tryz.ntmps85
 go_wp2_with fail
 go_loopw [18] (fun iv wr=>∃ (i:Nat) (a:Option Addr) (c:Nat) (vs:List V),iv=.int .i64 (i:Int)∧i≤ts.length∧vs.length=i∧FB wr (w.heap.size+1+1) w.heap.size tag cls a c vs∧wr.heap[w.heap.size+1]?=some (.cells #[.int .i64 0,.string ⟨#[]⟩,.slice none 0 0] 42 (0,0))∧Rs g w wr) (fun iv _=>ts.length - (intOf iv).toNat)
 case atStart=>exact ⟨0,none,0,[],rfl,by omega,rfl,⟨HFB.out _ _ _,World.ownsRow_nil _ _ _ _,fun v hv=>by simp at hv⟩,HRB.out _ _ _,Rs.of H.out (HA0.out _ _ _)⟩
 case round=>
  obtain ⟨i,a,c,vs,rfl,hi,hvl,hFB,hRB,hR⟩:=hrel
  have HVL:=hidR hvl
  have hvl3:vs.length≤3:=by omega
  clear hvl
  have HF:=hidR hFB
  have HRb:=hidR hRB
  have HR:=hidR hR
  have hsz:=hR.1.rest.size
  have hfw:w.heap.size+1+1<wr.heap.size:=zab hFB.1
  clear hFB hRB hR HA0 HRB HFB H
  by_cases hit:i<ts.length
  ·obtain ⟨t,hti⟩:∃ t,ts[i]?=some t:=⟨ts[i],by simp [hit]⟩
   obtain ⟨tk,rfl,htk,htkl,c0,c1,c2,c3,c4,c5⟩:=zmO (zm5 HT.out HR.out HRD.out (by decide)) hti
   have htv:VSm t.val:=(HSM.out t (List.mem_of_getElem? hti)).2.1
   have hiI:(i:Int)<(ts.length:Int):=by omega
   have HAl:=hidR (fun o=>(Below.refl _ _).alloc (Nat.le_refl _) o:∀ o,Below wr.heap.size wr (wr.alloc o))
   have HRa:=hidR (fun o=>HR.out.2.bel (HAl.out o))
   clear hti
   go_wp2_with fail
   refine (zcg g _ (HRa.out _)).mono ?_
   rintro e w1 ⟨v1,hv1,rfl,hr1⟩
   have HTB:=hidR (zaC hr1 (heap_alloc_new _ _) (by omega))
   have hR1:=hidR ((HR.out.bel (HAl.out _)).trans hr1)
   have HF1:=hidR ((HF.out.bel (HAl.out _)).rs hr1 (by omega) (by omega))
   have HRb1:=hidR (zaC hr1 (((HAl.out _).block _ (by omega)).trans HRb.out) (by omega))
   have hs1:wr.heap.size<w1.heap.size:=zab HTB.out
   obtain ⟨t0,t1,t2,t3,t4,t5⟩:=cells6 HTB.out
   have HAm:=hidR (fun o=>(Below.refl _ _).alloc (Nat.le_refl _) o:∀ o,Below w1.heap.size w1 (w1.alloc o))
   have HRm:=hidR (fun o=>hR1.out.2.bel (HAm.out o))
   have HOL1:=hidR (fun k (hk:(Value.slice a vs.length c).ownBlock=some k)=>(HF.out.2.1.lt k hk).2)
   clear hr1 c0 c1 c2 c3 c4 c5 t0 t1 t2 t3 t4 t5 HAl HRa HF HR HRb
   unfold vV
   go_upto_region 6 with fail
   refine zaj ?_
   intro w0 hW0 hvb0'
   have hvb0:=hidR hvb0'
   have HF0:=hidR (HF1.out.bel hW0)
   have hR0:=hidR (hR1.out.bel hW0)
   have HRb0:=hidR ((hW0.block _ (zab HRb1.out)).trans HRb1.out)
   have HTB0:=hidR ((hW0.block _ (zab HTB.out)).trans HTB.out)
   have hw0:=hW0.size
   obtain ⟨t0,t1,t2,t3,t4,t5⟩:=cells6 HTB0.out
   clear hW0 hvb0' HF1 hR1 HRb1 HTB HAm HRm
   have HOL:=hidR (fun k (hk:(Value.slice a vs.length c).ownBlock=some k)=>HOL1.out k hk)
   by_cases hk1:t.kind=1
   ·have hk2:¬ t.kind=2:=by omega
    rw [hk1] at t0
    go_wp2_with fail
    refine (zbf g w0 hR0.out.2).mono ?_
    rintro e w2 ⟨n2,hn2,rfl,hr2⟩
    have hvb2:=hidR (zaC hr2 hvb0.out (by omega))
    have HF2:=hidR (HF0.out.rs hr2 (by omega) (by omega))
    have hR2:=hidR (hR0.out.trans hr2)
    have HRb2:=hidR (zaC hr2 HRb0.out (by omega))
    obtain ⟨t0,t1,t2,t3,t4,t5⟩:w2.cell? ⟨wr.heap.size,0,none⟩=some (.int .i64 t.kind)∧w2.cell? ⟨wr.heap.size,1,none⟩=some (.int .i64 t.op)∧w2.cell? ⟨wr.heap.size,2,none⟩=some (.string t.var)∧w2.cell? ⟨wr.heap.size,3,none⟩=some (.int .i64 t.val.kind)∧w2.cell? ⟨wr.heap.size,4,none⟩=some (.int .i64 t.val.num)∧w2.cell? ⟨wr.heap.size,5,none⟩=some (.string t.val.sym):=cells6 (zaC hr2 HTB0.out (by omega))
    have hw2:=hr2.1.rest.size
    clear hr2 HF0 hvb0 hR0 HRb0 HTB0 t1 t2
    rw [hk1] at t0
    have HT0:=hidR t0
    by_cases hn4:n2 % 4=0
    ·have hn4':¬ (0:Int)<(n2:Int) % 4:=by omega
     have HFt:=hidR HF2.out
     have hRt:=hidR hR2.out
     have HRbt:=hidR HRb2.out
     obtain ⟨q0,q1,q2⟩:=box3 (v:=v1) hvb2.out
     obtain ⟨d0,d1,d2⟩:=HFt.out.cells
     have hst:w.heap.size+1+1<w2.heap.size:=zab HFt.out.1
     have hvt:w1.heap.size<w2.heap.size:=World.block_lt_of_cell? w2 ⟨w1.heap.size,0,none⟩ q0
     have HWt:=hidR (fun o=>(Below.refl _ _).alloc (Nat.le_refl _) o:∀ o,Below w2.heap.size w2 (w2.alloc o))
     have HOWt:=hidR (fun o=>zai HFt.out.2.1 (HWt.out o))
     go_wp2_with (first | (at_builtin;refine zae (by rfl) (.tmp 55) (.tmp 57) 40 (by rfl) w.heap.size 109 _ 3 32 Tryz.underlying40 zgb (by rfl) (by omega) _ vs.length _ (by rfl) (HOWt.out _) (some ⟨_,0,none⟩) 1 1 (by rfl) (V.cells v1) (by rfl) (fun e=>by cases e) (zaw _ _ _ _ (by simp)) (V.cells_one v1) (by unfold maxLen;omega) (by omega) (by simp;omega) ?_;intro a3 c3 w3 ho3 hg3 hl3;obtain ⟨k3,z3⟩:=zd5 HFt.out (HWt.out _) hg3.out) | fail)
     obtain ⟨r1,r2⟩:=zjW HFt.out hv1 hRt.out (HWt.out _) ho3.out hg3.out (Nat.le_refl _) (by omega) hlt
     go_roundw
     case rel=>exact ⟨i+1,a3,c3,vs ++ [v1],by go_num,by omega,by simp [HVL.out],r1,(Below.heap_setCell _ _ _ _ (by simp)).trans (zaL (t':=109) (((HWt.out _).block _ (by omega)).trans HRbt.out) hg3.out (fun k hk=>zah (HOWt.out _) hk) (by decide)),r2⟩
     case measure=>(simp [intOf];omega)
    ·have hn4':(0:Int)<(n2:Int) % 4:=by omega
     go_wp2_with (first | (refine zak (by rfl) 109 (.tmp 10) (.tmp 34) (by rfl) w1.heap.size (V.cells t.val) (by rfl) (by rfl) _ 109 hvb2.out (by rfl) zdY (V.cells_one _) ?_;intro wt hvt' htt;have tt0:wt.cell? ⟨wr.heap.size,0,none⟩=some (.int .i64 1):=(by rw [htt.out.cell (p:=⟨wr.heap.size,0,none⟩) (by simp;omega)];exact HT0.out);have HFt:=hidR (HF2.out.turned htt.out (by omega) (fun k hk=>by have:=(HF2.out.2.1.lt k hk);have:=HOL.out k hk;omega));have hRt:=hidR (hR2.out.turned htt.out (by omega) hlt);have HRbt:=hidR ((htt.out.block _ (by omega)).trans HRb2.out);obtain ⟨q0,q1,q2⟩:=box3 (v:=t.val) hvt'.out;obtain ⟨d0,d1,d2⟩:=HFt.out.cells;have hst:w.heap.size+1+1<wt.heap.size:=zab HFt.out.1;have hvt:w1.heap.size<wt.heap.size:=World.block_lt_of_cell? wt ⟨w1.heap.size,0,none⟩ q0;have HWt:=hidR (fun o=>(Below.refl _ _).alloc (Nat.le_refl _) o:∀ o,Below wt.heap.size wt (wt.alloc o));have HOWt:=hidR (fun o=>zai HFt.out.2.1 (HWt.out o));clear t0 t3 t4 t5 ) | (at_builtin;refine zae (by rfl) (.tmp 55) (.tmp 57) 40 (by rfl) w.heap.size 109 _ 3 32 Tryz.underlying40 zgb (by rfl) (by omega) _ vs.length _ (by rfl) (HOWt.out _) (some ⟨_,0,none⟩) 1 1 (by rfl) (V.cells t.val) (by rfl) (fun e=>by cases e) (zaw _ _ _ _ (by simp)) (V.cells_one t.val) (by unfold maxLen;omega) (by omega) (by simp;omega) ?_;intro a3 c3 w3 ho3 hg3 hl3;obtain ⟨k3,z3⟩:=zd5 HFt.out (HWt.out _) hg3.out) | fail)
     obtain ⟨r1,r2⟩:=zjW HFt.out htv hRt.out (HWt.out _) ho3.out hg3.out (Nat.le_refl _) (by omega) hlt
     go_roundw
     case rel=>exact ⟨i+1,a3,c3,vs ++ [t.val],by go_num,by omega,by simp [HVL.out],r1,(Below.heap_setCell _ _ _ _ (by simp)).trans (zaL (t':=109) (((HWt.out _).block _ (by omega)).trans HRbt.out) hg3.out (fun k hk=>zah (HOWt.out _) hk) (by decide)),r2⟩
     case measure=>(simp [intOf];omega)
   by_cases hk2:t.kind=2
   ·rw [hk2] at t0
    by_cases hv0:vs.length=0
    ·obtain rfl:vs=[]:=List.eq_nil_of_length_eq_zero hv0
     clear hv0
     obtain ⟨d0,d1,d2⟩:=HF0.out.cells
     have HFt:=hidR HF0.out
     have hRt:=hidR hR0.out
     have HRbt:=hidR HRb0.out
     obtain ⟨q0,q1,q2⟩:=box3 (v:=v1) hvb0.out
     obtain ⟨d0,d1,d2⟩:=HFt.out.cells
     have hst:w.heap.size+1+1<w0.heap.size:=zab HFt.out.1
     have hvt:w1.heap.size<w0.heap.size:=World.block_lt_of_cell? w0 ⟨w1.heap.size,0,none⟩ q0
     have HWt:=hidR (fun o=>(Below.refl _ _).alloc (Nat.le_refl _) o:∀ o,Below w0.heap.size w0 (w0.alloc o))
     have HOWt:=hidR (fun o=>zai HFt.out.2.1 (HWt.out o))
     go_wp2_with (first | (at_builtin;refine zae (by rfl) (.tmp 55) (.tmp 57) 40 (by rfl) w.heap.size 109 _ 3 32 Tryz.underlying40 zgb (by rfl) (by omega) _ ([]:List V).length _ (by rfl) (HOWt.out _) (some ⟨_,0,none⟩) 1 1 (by rfl) (V.cells v1) (by rfl) (fun e=>by cases e) (zaw _ _ _ _ (by simp)) (V.cells_one v1) (by unfold maxLen;omega) (by omega) (by simp;omega) ?_;intro a3 c3 w3 ho3 hg3 hl3;obtain ⟨k3,z3⟩:=zd5 HFt.out (HWt.out _) hg3.out) | fail)
     obtain ⟨r1,r2⟩:=zjW HFt.out hv1 hRt.out (HWt.out _) ho3.out hg3.out (Nat.le_refl _) (by omega) hlt
     go_roundw
     case rel=>exact ⟨i+1,a3,c3,([]:List V) ++ [v1],by go_num,by omega,by simp [HVL.out],r1,(Below.heap_setCell _ _ _ _ (by simp)).trans (zaL (t':=109) (((HWt.out _).block _ (by omega)).trans HRbt.out) hg3.out (fun k hk=>zah (HOWt.out _) hk) (by decide)),r2⟩
     case measure=>(simp [intOf];omega)
    ·have hv0':(0:Int)<(vs.length:Int):=by omega
     obtain ⟨d0,d1,d2⟩:=HF0.out.cells
     go_wp2_with fail
     refine (zbf g w0 hR0.out.2).mono ?_
     rintro e w2 ⟨n2,hn2,rfl,hr2⟩
     have hvb2:=hidR (zaC hr2 hvb0.out (by omega))
     have HF2:=hidR (HF0.out.rs hr2 (by omega) (by omega))
     have hR2:=hidR (hR0.out.trans hr2)
     have HRb2:=hidR (zaC hr2 HRb0.out (by omega))
     obtain ⟨t0,t1,t2,t3,t4,t5⟩:w2.cell? ⟨wr.heap.size,0,none⟩=some (.int .i64 t.kind)∧w2.cell? ⟨wr.heap.size,1,none⟩=some (.int .i64 t.op)∧w2.cell? ⟨wr.heap.size,2,none⟩=some (.string t.var)∧w2.cell? ⟨wr.heap.size,3,none⟩=some (.int .i64 t.val.kind)∧w2.cell? ⟨wr.heap.size,4,none⟩=some (.int .i64 t.val.num)∧w2.cell? ⟨wr.heap.size,5,none⟩=some (.string t.val.sym):=cells6 (zaC hr2 HTB0.out (by omega))
     have hw2:=hr2.1.rest.size
     clear hr2 HF0 hvb0 hR0 HRb0 HTB0 t1 t2
     rw [hk2] at t0
     have HT0:=hidR t0
     clear d0 d1 d2
     by_cases hn4:n2 % 2=0
     ·obtain ⟨vf,hvf⟩:∃ v,vs[0]?=some v:=⟨vs[0]'(by omega),by simp⟩
      have hvfs:VSm vf:=HF2.out.2.2 vf (List.mem_of_getElem? hvf)
      obtain ⟨e0,e1,e2⟩:=HF2.out.cells
      obtain ⟨sk,hsk,hskb,hskl,s0,s1,s2⟩:=znE HF2.out.2.1 hvf
      subst hsk
      simp only [Nat.zero_mul,Nat.zero_add] at s0 s1 s2
      go_wp2_with (first | (refine zak (by rfl) 109 (.tmp 10) (.tmp 53) (by rfl) w1.heap.size (V.cells vf) (by rfl) (by rfl) _ 109 hvb2.out (by rfl) zdY (V.cells_one _) ?_;intro wt hvt' htt;have tt0:wt.cell? ⟨wr.heap.size,0,none⟩=some (.int .i64 2):=(by rw [htt.out.cell (p:=⟨wr.heap.size,0,none⟩) (by simp;omega)];exact HT0.out);have HFt:=hidR (HF2.out.turned htt.out (by omega) (fun k hk=>by have:=(HF2.out.2.1.lt k hk);have:=HOL.out k hk;omega));have hRt:=hidR (hR2.out.turned htt.out (by omega) hlt);have HRbt:=hidR ((htt.out.block _ (by omega)).trans HRb2.out);obtain ⟨q0,q1,q2⟩:=box3 (v:=vf) hvt'.out;obtain ⟨d0,d1,d2⟩:=HFt.out.cells;have hst:w.heap.size+1+1<wt.heap.size:=zab HFt.out.1;have hvt:w1.heap.size<wt.heap.size:=World.block_lt_of_cell? wt ⟨w1.heap.size,0,none⟩ q0;have HWt:=hidR (fun o=>(Below.refl _ _).alloc (Nat.le_refl _) o:∀ o,Below wt.heap.size wt (wt.alloc o));have HOWt:=hidR (fun o=>zai HFt.out.2.1 (HWt.out o));clear t0 t3 t4 t5 e0 e1 e2 s0 s1 s2) | (at_builtin;refine zae (by rfl) (.tmp 55) (.tmp 57) 40 (by rfl) w.heap.size 109 _ 3 32 Tryz.underlying40 zgb (by rfl) (by omega) _ vs.length _ (by rfl) (HOWt.out _) (some ⟨_,0,none⟩) 1 1 (by rfl) (V.cells vf) (by rfl) (fun e=>by cases e) (zaw _ _ _ _ (by simp)) (V.cells_one vf) (by unfold maxLen;omega) (by omega) (by simp;omega) ?_;intro a3 c3 w3 ho3 hg3 hl3;obtain ⟨k3,z3⟩:=zd5 HFt.out (HWt.out _) hg3.out) | fail)
      obtain ⟨r1,r2⟩:=zjW HFt.out hvfs hRt.out (HWt.out _) ho3.out hg3.out (Nat.le_refl _) (by omega) hlt
      go_roundw
      case rel=>exact ⟨i+1,a3,c3,vs ++ [vf],by go_num,by omega,by simp [HVL.out],r1,(Below.heap_setCell _ _ _ _ (by simp)).trans (zaL (t':=109) (((HWt.out _).block _ (by omega)).trans HRbt.out) hg3.out (fun k hk=>zah (HOWt.out _) hk) (by decide)),r2⟩
      case measure=>(simp [intOf];omega)
     ·have hn4':¬ (n2:Int) % 2=0:=by omega
      have HFt:=hidR HF2.out
      have hRt:=hidR hR2.out
      have HRbt:=hidR HRb2.out
      obtain ⟨q0,q1,q2⟩:=box3 (v:=v1) hvb2.out
      obtain ⟨d0,d1,d2⟩:=HFt.out.cells
      have hst:w.heap.size+1+1<w2.heap.size:=zab HFt.out.1
      have hvt:w1.heap.size<w2.heap.size:=World.block_lt_of_cell? w2 ⟨w1.heap.size,0,none⟩ q0
      have HWt:=hidR (fun o=>(Below.refl _ _).alloc (Nat.le_refl _) o:∀ o,Below w2.heap.size w2 (w2.alloc o))
      have HOWt:=hidR (fun o=>zai HFt.out.2.1 (HWt.out o))
      go_wp2_with (first | (at_builtin;refine zae (by rfl) (.tmp 55) (.tmp 57) 40 (by rfl) w.heap.size 109 _ 3 32 Tryz.underlying40 zgb (by rfl) (by omega) _ vs.length _ (by rfl) (HOWt.out _) (some ⟨_,0,none⟩) 1 1 (by rfl) (V.cells v1) (by rfl) (fun e=>by cases e) (zaw _ _ _ _ (by simp)) (V.cells_one v1) (by unfold maxLen;omega) (by omega) (by simp;omega) ?_;intro a3 c3 w3 ho3 hg3 hl3;obtain ⟨k3,z3⟩:=zd5 HFt.out (HWt.out _) hg3.out) | fail)
      obtain ⟨r1,r2⟩:=zjW HFt.out hv1 hRt.out (HWt.out _) ho3.out hg3.out (Nat.le_refl _) (by omega) hlt
      go_roundw
      case rel=>exact ⟨i+1,a3,c3,vs ++ [v1],by go_num,by omega,by simp [HVL.out],r1,(Below.heap_setCell _ _ _ _ (by simp)).trans (zaL (t':=109) (((HWt.out _).block _ (by omega)).trans HRbt.out) hg3.out (fun k hk=>zah (HOWt.out _) hk) (by decide)),r2⟩
      case measure=>(simp [intOf];omega)
   ·have HFt:=hidR HF0.out
    have hRt:=hidR hR0.out
    have HRbt:=hidR HRb0.out
    obtain ⟨q0,q1,q2⟩:=box3 (v:=v1) hvb0.out
    obtain ⟨d0,d1,d2⟩:=HFt.out.cells
    have hst:w.heap.size+1+1<w0.heap.size:=zab HFt.out.1
    have hvt:w1.heap.size<w0.heap.size:=World.block_lt_of_cell? w0 ⟨w1.heap.size,0,none⟩ q0
    have HWt:=hidR (fun o=>(Below.refl _ _).alloc (Nat.le_refl _) o:∀ o,Below w0.heap.size w0 (w0.alloc o))
    have HOWt:=hidR (fun o=>zai HFt.out.2.1 (HWt.out o))
    go_wp2_with (first | (at_builtin;refine zae (by rfl) (.tmp 55) (.tmp 57) 40 (by rfl) w.heap.size 109 _ 3 32 Tryz.underlying40 zgb (by rfl) (by omega) _ vs.length _ (by rfl) (HOWt.out _) (some ⟨_,0,none⟩) 1 1 (by rfl) (V.cells v1) (by rfl) (fun e=>by cases e) (zaw _ _ _ _ (by simp)) (V.cells_one v1) (by unfold maxLen;omega) (by omega) (by simp;omega) ?_;intro a3 c3 w3 ho3 hg3 hl3;obtain ⟨k3,z3⟩:=zd5 HFt.out (HWt.out _) hg3.out) | fail)
    obtain ⟨r1,r2⟩:=zjW HFt.out hv1 hRt.out (HWt.out _) ho3.out hg3.out (Nat.le_refl _) (by omega) hlt
    go_roundw
    case rel=>exact ⟨i+1,a3,c3,vs ++ [v1],by go_num,by omega,by simp [HVL.out],r1,(Below.heap_setCell _ _ _ _ (by simp)).trans (zaL (t':=109) (((HWt.out _).block _ (by omega)).trans HRbt.out) hg3.out (fun k hk=>zah (HOWt.out _) hk) (by decide)),r2⟩
    case measure=>(simp [intOf];omega)
  ·have hie:i=ts.length:=by omega
   have hiI:¬ (i:Int)<(ts.length:Int):=by omega
   obtain ⟨d0,d1,d2⟩:=HF.out.cells
   go_wp2_with (first | (refine zak (by rfl) 42 (.tmp 6) (.tmp 61) (by rfl) (w.heap.size+1) [.int .i64 tag,.string cls,.slice a vs.length c] (by rfl) (by rfl) _ 42 HRb.out (by rfl) znR (by intro u hu;simp at hu;rcases hu with rfl | rfl | rfl <;> rfl) ?_;intro w3 hk3 ht3) | fail)
   have f0:w3.cell? ⟨w.heap.size+1,0,none⟩=some (.int .i64 tag):=by simp [World.cell?,hk3.out]
   have f1:w3.cell? ⟨w.heap.size+1,1,none⟩=some (.string cls):=by simp [World.cell?,hk3.out]
   have f2:w3.cell? ⟨w.heap.size+1,2,none⟩=some (.slice a vs.length c):=by simp [World.cell?,hk3.out]
   refine bodyPost_ret (v:=fV tag cls (.slice a vs.length c)) (by simp [results,Tryz.results85,go_sem,f0,f1,f2,fV]) rfl ⟨a,c,vs,rfl,by omega,?_,(fun p q r hh=>HF.out.2.2 (p,q,r) hh),HR.out.turned ht3.out (by omega) hlt⟩
   refine zaf HF.out.2.1 (fun k hk=>ht3.out.block k (fun e=>?_))
   obtain ⟨cc,hcc⟩:=zah HF.out.2.1 hk
   subst e
   exact zaF hcc HRb.out (by decide)
end Go.Proofs.YtmmdlgjmplddiaaGreat
namespace Go.Proofs.YtmmdlgjmplddiaaGreat
theorem tk {P:Program}{l:List Oper}{Q:Exit→Act→World→Prop}{md:Region.Mode}{S:World→Prop} (i:Nat) {oi:Oper}{v:Value}{fuel:Nat}{listed:Array Bool}{a:Act}{w:World} (hS:S w)
  (h:wpAnyH P md l.toArray (NoPanic Q) S fuel (listed.setIfInBounds i true) (a.put oi.dst v) w) (hi:l[i]?=some oi:=by rfl)
  (hs:Region.noSelect l.toArray=true:=by kernel_rfl) (hf:Region.free md l.toArray listed i=true:=by kernel_rfl) (hr:(Region.ready md l.toArray listed).contains i=true:=by kernel_rfl)
  (hw:Region.wanted oi (yielded l.toArray a.tmps)=true:=by rfl) (hy:∀ w,S w→(execOp a.eval oi).run P w=.ok (.value v) w:=by intro w hSw;(try dsimp only at hSw);go_simp;try with_reducible rfl):wpAnyH P md l.toArray (NoPanic Q) S (fuel+1) listed a w:=
 wpAnyH_take (List.getElem?_toArray.trans hi) hs hf hr (fun _ _ _ h=>h) (.inl ⟨hw,hy⟩) hS h
theorem tn {P:Program}{l:List Oper}{Q:Exit→Act→World→Prop}{md:Region.Mode}{S:World→Prop} (i:Nat) {oi:Oper}{fuel:Nat}{listed:Array Bool}{a:Act}{w:World} (hS:S w)
  (h:wpAnyH P md l.toArray (NoPanic Q) S fuel (listed.setIfInBounds i true) (a.put oi.dst undef) w) (hi:l[i]?=some oi:=by rfl)
  (hs:Region.noSelect l.toArray=true:=by kernel_rfl) (hf:Region.free md l.toArray listed i=true:=by kernel_rfl) (hr:(Region.ready md l.toArray listed).contains i=true:=by kernel_rfl)
  (hw:Region.wanted oi (yielded l.toArray a.tmps)=false:=by rfl):wpAnyH P md l.toArray (NoPanic Q) S (fuel+1) listed a w:=
 wpAnyH_take (List.getElem?_toArray.trans hi) hs hf hr (fun _ _ _ h=>h) (.inr ⟨hw,rfl⟩) hS h
theorem pA (l:List Value) (d:List Deferred) (t:Nat) (v:Value):({ tmps:=l.toArray,defers:=d }:Act).put (some t) v={ tmps:=(l.set t v).toArray,defers:=d }:=by simp [Act.put]
theorem pN (a:Act) (v:Value):a.put none v=a:=rfl
theorem pZ {α:Type} (x v:α) (l:List α):(x :: l).set 0 v=v :: l:=rfl
theorem pS {α:Type} (x v:α) (l:List α) (n:Nat):(x :: l).set (n+1) v=x :: l.set n v:=rfl
end Go.Proofs.YtmmdlgjmplddiaaGreat
namespace Go.Proofs.YtmmdlgjmplddiaaGreat
open Go.RowKit
attribute [local go_sem ↓] Go.wp_at_zero Go.wp_at_succ
theorem zmW {w:World}{base:Nat}{a:Option Addr}{c:Nat}{M:List RuX} (h:RO w base a c M) {i:Nat}{x:RuX} (hi:M[i]?=some x) :
  ∃ k,a=some ⟨k,0,none⟩∧k<w.heap.size∧w.cell? ⟨k,i * 5,none⟩=some (.string x.nm)∧w.cell? ⟨k,i * 5+1,none⟩=some (.int .i64 x.sal)∧w.cell? ⟨k,i * 5+2,none⟩=some x.pv∧w.cell? ⟨k,i * 5+3,none⟩=some x.ev∧w.cell? ⟨k,i * 5+4,none⟩=some x.av:=by
 have key:=fun j u (hj:(rcells x)[j]?=some u)=>zam h.1 (zbe (cells:=rcells) (m:=5) (fun _=>rfl) M i x j u hi hj)
 obtain ⟨k,rfl,_,h0,_⟩:=key 0 _ rfl
 obtain ⟨k1,e1,_,h1,_⟩:=key 1 _ rfl
 obtain ⟨k2,e2,_,h2,_⟩:=key 2 _ rfl
 obtain ⟨k3,e3,_,h3,_⟩:=key 3 _ rfl
 obtain ⟨k4,e4,_,h4,_⟩:=key 4 _ rfl
 cases e1
 cases e2
 cases e3
 cases e4
 exact ⟨k,rfl,World.block_lt_of_cell? w ⟨k,_,none⟩ h0,h0,h1,h2,h3,h4⟩
theorem zmx {w:World}{base:Nat}{a:Option Addr}{c:Nat}{L:List PtV} (h:PO w base a c L) {i:Nat}{x:PtV} (hi:L[i]?=some x) :
  ∃ k,a=some ⟨k,0,none⟩∧k<w.heap.size∧w.cell? ⟨k,i * 3,none⟩=some (.bool x.1.neg)∧w.cell? ⟨k,i * 3+1,none⟩=some (.string x.1.cls)∧w.cell? ⟨k,i * 3+2,none⟩=some x.2:=by
 have key:=fun j u (hj:(pcells x)[j]?=some u)=>zam h.1 (zbe (cells:=pcells) (m:=3) (fun _=>rfl) L i x j u hi hj)
 obtain ⟨k,rfl,_,h0,_⟩:=key 0 _ rfl
 obtain ⟨k1,e1,_,h1,_⟩:=key 1 _ rfl
 obtain ⟨k2,e2,_,h2,_⟩:=key 2 _ rfl
 cases e1
 cases e2
 exact ⟨k,rfl,World.block_lt_of_cell? w ⟨k,_,none⟩ h0,h0,h1,h2⟩
theorem PO.rsT {base g:Nat}{w w':World}{a:Option Addr}{c:Nat}{L:List PtV} (h:PO w base a c L) (hr:Rs g w w') (hg:Rdr w g):PO w' base a c L:=h.same (T:=[38,115]) (Same.rsT hr hg (by decide)) (by decide) (by decide)
abbrev FcV:=F × Value
def fxcells (x:FcV):List Value:=[.int .i64 x.1.tag,.string x.1.cls,x.2]
def FxP (w:World) (base:Nat) (x:FcV):Prop:=((∃ a c,x.2=.slice a x.1.slots.length c)∧w.ownsRow base 109 3 x.2 x.1.slots.length (x.1.slots.flatMap V.cells))∧GCl x.1.cls∧x.1.slots.length≤3∧∀ v∈x.1.slots,VSm v
def FsO (w:World) (base:Nat) (a:Option Addr) (c:Nat) (Fs:List FcV):Prop:=w.ownsRow base 42 3 (.slice a Fs.length c) Fs.length (Fs.flatMap fxcells)∧∀ x∈Fs,FxP w base x
theorem FsO.nil (w:World) (base:Nat):FsO w base none 0 []:=⟨World.ownsRow_nil _ _ _ _,fun x hx=>by simp at hx⟩
theorem FsO.same {T:List TypeId}{base:Nat}{w w':World}{a:Option Addr}{c:Nat}{Fs:List FcV} (h:FsO w base a c Fs) (hs:Same T base w w') (h1:42∈T) (h2:109∈T):FsO w' base a c Fs:=⟨zbC h.1 hs h1,fun x hx=>⟨⟨(h.2 x hx).1.1,zbC (h.2 x hx).1.2 hs h2⟩,(h.2 x hx).2⟩⟩
theorem FsO.bel {base:Nat}{w w':World}{a:Option Addr}{c:Nat}{Fs:List FcV} (h:FsO w base a c Fs) (hb:Below w.heap.size w w'):FsO w' base a c Fs:=h.same (T:=[42,109]) (Same.bel hb) (by decide) (by decide)
theorem FsO.rs {base g:Nat}{w w':World}{a:Option Addr}{c:Nat}{Fs:List FcV} (h:FsO w base a c Fs) (hr:Rs g w w') (hg:g<base):FsO w' base a c Fs:=h.same (T:=[42,109]) (Same.rs hr hg) (by decide) (by decide)
theorem FsO.snoc {w w9:World}{base:Nat}{a a9:Option Addr}{c c9:Nat}{Y:List FcV}{x:FcV} (h:FsO w base a c Y) (hx:FxP w base x) (ho:w9.ownsRow base 42 3 (.slice a9 (Y.length+1) c9) (Y.length+1) (Y.flatMap fxcells ++ fxcells x)) (hg:w.grownBy w9 (Value.slice a Y.length c).ownBlock):FsO w9 base a9 c9 (Y ++ [x]):=by
 refine ⟨by simpa using ho,fun y hy=>?_⟩
 have hy':FxP w base y:=by
  rcases List.mem_append.1 hy with hy | hy
  ·exact h.2 y hy
  ·simp at hy
   exact hy ▸ hx
 exact ⟨⟨hy'.1.1,zby (t:=42) hy'.1.2 hg (fun k hk=>zah h.1 hk) (by decide)⟩,hy'.2⟩
theorem znf:(Tryz.prog.info? 42).map (fun i=>(i.zero,i.size,i.bytes))=some (some (.agg #[.int .i64 0,.string ⟨#[]⟩,.slice none 0 0]),3,48):=by kernel_rfl
theorem zjr (g base:Nat) (x:PtV) (tag:Int) (w:World) (h:Rdr w g) (hx:PtX w base x) :
  Calls Tryz.prog 85 #[.pointer (some ⟨g,0,none⟩),.agg #[.bool x.1.neg,.string x.1.cls,x.2],.int .i64 tag] w fun e w'=>∃ sa sc vs,e=.returned (.agg #[.int .i64 tag,.string x.1.cls,.slice sa vs.length sc])∧vs.length≤3∧w'.ownsRow w.heap.size 109 3 (.slice sa vs.length sc) vs.length ((vs:List V).flatMap V.cells)∧(∀ v∈vs,VSm v)∧Rs g w w':=zjK g base x tag w h hx
abbrev PatS (w':World) (qb pk n pc:Nat) (f:Nat→PtV):Prop:=w'.cell? ⟨qb,2,none⟩=some (.slice (some ⟨pk,0,none⟩) n pc)∧(∀ j,j<n→w'.cell? ⟨pk,j * 3,none⟩=some (.bool (f j).1.neg))∧(∀ j,j<n→w'.cell? ⟨pk,j * 3+1,none⟩=some (.string (f j).1.cls))∧∀ j,j<n→w'.cell? ⟨pk,j * 3+2,none⟩=some (f j).2
theorem PatS.of {w:World}{base qb pk pc:Nat}{L:List PtV}{f:Nat→PtV} (hq:w.cell? ⟨qb,2,none⟩=some (.slice (some ⟨pk,0,none⟩) L.length pc)) (h:PO w base (some ⟨pk,0,none⟩) pc L) (hf:∀ j,j<L.length→L[j]?=some (f j)):PatS w qb pk L.length pc f:=by
 have key:∀ j,j<L.length→w.cell? ⟨pk,j * 3,none⟩=some (.bool (f j).1.neg)∧w.cell? ⟨pk,j * 3+1,none⟩=some (.string (f j).1.cls)∧w.cell? ⟨pk,j * 3+2,none⟩=some (f j).2:=by
  intro j hj
  obtain ⟨k,e,_,h0,h1,h2⟩:=zmx h (hf j hj)
  cases e
  exact ⟨h0,h1,h2⟩
 exact ⟨hq,fun j hj=>(key j hj).1,fun j hj=>(key j hj).2.1,fun j hj=>(key j hj).2.2⟩
theorem PatS.bel {w w':World}{qb pk n pc:Nat}{f:Nat→PtV} (h:PatS w qb pk n pc f) (hb:Below w.heap.size w w'):PatS w' qb pk n pc f:=⟨zaa hb h.1,fun j hj=>zaa hb (h.2.1 j hj),fun j hj=>zaa hb (h.2.2.1 j hj),fun j hj=>zaa hb (h.2.2.2 j hj)⟩
theorem PatS.alloc {w:World}{qb pk n pc:Nat}{f:Nat→PtV} (h:PatS w qb pk n pc f) (o:Obj):PatS (w.alloc o) qb pk n pc f:=PatS.bel h ((Below.refl _ _).alloc (Nat.le_refl _) _)
theorem PatS.grown {w w':World}{qb pk n pc:Nat}{f:Nat→PtV}{row:Option Nat} (h:PatS w qb pk n pc f) (hg:w.grownBy w' row) (ht:∀ k,row=some k→∃ c,w.heap[k]?=some (.cells c 42 (0,0))) (h1:∃ c,w.heap[qb]?=some (.cells c 35 (0,0))) (h2:∃ c,w.heap[pk]?=some (.cells c 38 (0,0))):PatS w' qb pk n pc f:=by
 obtain ⟨c1,h1⟩:=h1
 obtain ⟨c2,h2⟩:=h2
 have e1:w'.heap[qb]?=w.heap[qb]?:=(zaL h1 hg ht (by decide)).trans h1.symm
 have e2:w'.heap[pk]?=w.heap[pk]?:=(zaL h2 hg ht (by decide)).trans h2.symm
 have k1:=fun o=>World.cell?_of_block (w:=w) (w':=w') (a:=⟨qb,o,none⟩) e1
 have k2:=fun o=>World.cell?_of_block (w:=w) (w':=w') (a:=⟨pk,o,none⟩) e2
 exact ⟨(k1 _).trans h.1,fun j hj=>(k2 _).trans (h.2.1 j hj),fun j hj=>(k2 _).trans (h.2.2.1 j hj),fun j hj=>(k2 _).trans (h.2.2.2 j hj)⟩
theorem zlN {k:Nat}{x:RuX} (h:DRu k x.ru):1≤x.pats.length:=by
 obtain ⟨_,K,pos,hd⟩:=h
 have h1:=hd.count
 have h2:=hd.npos.1
 have h3:positives x.ru.pats≤x.ru.pats.length:=List.countP_le_length
 have h4:x.ru.pats.length=x.pats.length:=List.length_map ..
 omega
set_option maxRecDepth 100000 in
set_option maxHeartbeats 12800000 in
theorem ziv (g base most:Nat) (a:Option Addr) (c:Nat) (M:List RuX) (w:World) (h:Rdr w g) (hRO:RO w base a c M) (hMK:MOk M) (hM1:1≤M.length) (hM8:M.length≤8) (hm:most≤12) :
  Calls Tryz.prog 50 #[.pointer (some ⟨g,0,none⟩),.slice a M.length c,.int .i64 (most:Int)] w fun e w'=>∃ fa fc Fs,e=.returned (.slice fa (List.length Fs) fc)∧Fs.length≤most∧FsO w' w.heap.size fa fc Fs∧Rs g w w':=by
 have H:=hidR h
 have MO:=hidR hRO
 have HMK:=hidR hMK
 have hlt:=h.lt
 clear h hRO hMK
 have hm1:¬ (most:Int)+1=0:=by omega
 go_enter Tryz.func50,Tryz.ntmps50
 go_wp2_with fail
 refine (zbf g w H.out).mono ?_
 rintro e w1 ⟨n1,hn1,rfl,hr1⟩
 have R1:=hidR hr1
 clear hr1
 obtain ⟨n0,hn0⟩:∃ n0,n0=most - n1 % (most+1) / 2:=⟨_,rfl⟩
 have hml:=Nat.mod_lt n1 (show 0<most+1 by omega)
 have hn0e:(most:Int) - (n1:Int) % ((most:Int)+1) / 2=(n0:Int):=by
  have:(n1:Int) % ((most:Int)+1)=((n1 % (most+1):Nat):Int):=by push_cast;rfl
  rw [this]
  omega
 have hn01:n0≤most:=by omega
 clear hn0 hml
 go_wp2_with fail
 clear hn0e
 go_loopw [7,8,9] (fun ov tv nv wr=>∃ (j:Nat) (fa:Option Addr) (fc:Nat) (Fs:List FcV) (tag:Int),nv=.int .i64 (j:Int)∧tv=.int .i64 tag∧ov=.slice fa Fs.length fc∧(0≤tag∧tag≤2 * Fs.length)∧Fs.length+j=n0∧FsO wr w.heap.size fa fc Fs∧Rs g w wr) (fun _ _ nv _=>(intOf nv).toNat)
 case atStart=>exact ⟨n0,none,0,[],0,rfl,rfl,rfl,by simp,by simp,FsO.nil _ _,R1.out⟩
 case round=>
  obtain ⟨j,fa,fc,Fs,tag,rfl,rfl,rfl,htag,hj,hFO,hR⟩:=hrel
  have HJ:=hidR hj
  have hj12:j≤12:=by omega
  have hF12:Fs.length≤12:=by omega
  have FO:=hidR hFO
  have R:=hidR hR
  have hsr:=hR.1.rest.size
  clear hj hFO hR R1
  by_cases hj0:j=0
  ·have hFm:Fs.length≤most:=by have:=HJ.out;omega
   clear HJ
   subst hj0
   go_wp2_with fail
   go_ret
   exact ⟨fa,fc,Fs,rfl,hFm,FO.out,R.out⟩
  ·have hj1:(0:Int)<(j:Int):=by omega
   have MOr:=hidR (MO.out.rsT R.out H.out)
   go_wp2_with fail
   refine (zbf g wr R.out.2).mono ?_
   rintro e w2 ⟨n2,hn2,rfl,hr2⟩
   have R2:=hidR (R.out.trans hr2)
   have MO2:=hidR (MOr.out.rsT hr2 R.out.2)
   have FO2:=hidR (FO.out.rs hr2 hlt)
   have hs2:=hr2.1.rest.size
   obtain ⟨i,hi⟩:∃ i,i=(j+n2) % M.length:=⟨_,rfl⟩
   have hiM:i<M.length:=by rw [hi];exact Nat.mod_lt _ (by omega)
   have hie:((j:Int)+(n2:Int)) % (M.length:Int)=(i:Int):=by rw [hi];push_cast;rfl
   have hiI:(i:Int)<(M.length:Int):=by omega
   have hi0:(0:Int)≤(i:Int):=by omega
   have hMn:¬ (M.length:Int)=0:=by omega
   obtain ⟨x,hxi⟩:∃ x,M[i]?=some x:=⟨M[i],by simp [hiM]⟩
   have hL1:=zlN (HMK.out i x hxi).1
   obtain ⟨rk,rfl,hrk,c0,c1,c2,c3,c4⟩:=zmW MO2.out hxi
   have hRP:=MO2.out.2 x (List.mem_of_getElem? hxi)
   obtain ⟨⟨pa,pc,hpv,hPO⟩,⟨ea,ec,hev,_⟩,aa,ac,hav,_⟩:=hRP
   rw [hpv] at c2
   rw [hev] at c3
   rw [hav] at c4
   have PO2:=hidR hPO
   clear hr2 hi hxi hPO MOr R FO
   go_upto_region 7 with fail
   refine zaj ?_
   intro w3 hW3 hq3
   have Q3:=hidR hq3
   have q3c:w3.cell? ⟨w2.heap.size,2,none⟩=some (.slice pa x.pats.length pc):=by simp [World.cell?,hq3]
   have hq3l:w2.heap.size<w3.heap.size:=zab hq3
   have R3':=hidR (R2.out.bel hW3)
   have PO3':=hidR (PO2.out.bel hW3)
   have FO3':=hidR (FO2.out.bel hW3)
   have hs3:=hW3.size
   clear hW3 hq3 c0 c1 c2 c3 c4 hie R2 PO2 MO2 FO2
   go_wp2_with fail
   refine (zbf g w3 R3'.out.2).mono ?_
   rintro e w3b ⟨n7,hn7,rfl,hr7⟩
   have R3:=hidR (R3'.out.trans hr7)
   have PO3:=hidR (PO3'.out.rsT hr7 R3'.out.2)
   have FO3:=hidR (FO3'.out.rs hr7 hlt)
   have Q3b:=hidR (zaC hr7 Q3.out (by omega))
   have q3:w3b.cell? ⟨w2.heap.size,2,none⟩=some (.slice pa x.pats.length pc):=zgI hr7 q3c (by omega)
   have hs3b:=hr7.1.rest.size
   clear hr7 R3' PO3' FO3' Q3 q3c
   go_upto_region 8 with fail
   have hgw:g<w.heap.size:=hlt
   obtain ⟨L,hLL⟩:∃ L,L=x.pats:=⟨_,rfl⟩
   rw [← hLL] at q3 hL1 PO3
   clear hLL
   have hLne:¬ L=[]:=fun e=>by rw [e] at hL1;simp at hL1
   obtain ⟨f,hf⟩:∃ f:Nat→PtV,∀ j,j<L.length→L[j]?=some (f j):=⟨fun j=>L[j]?.getD (L[0]'(by omega)),fun j hj=>by simp [hj]⟩
   obtain ⟨pk,hpk,hpkl,_,_,_⟩:=zmx PO3.out (hf 0 (by omega))
   subst hpk
   have HF:=hidR hf
   clear hf
   have q3d:w3b.drew.cell? ⟨w2.heap.size,2,none⟩=some (.slice (some ⟨pk,0,none⟩) L.length pc):=q3
   have HRD:=hidR (R3.out.2.bel (Below.refl _ _).drew)
   have POd:=hidR (PO3.out.bel (Below.refl _ _).drew)
   have FOd:=hidR (FO3.out.bel (Below.refl _ _).drew)
   have hLn:¬ (L.length:Int)=0:=by omega
   have PSd:=hidR (PatS.of q3d POd.out HF.out)
   refine wp_region_noPanic ?_
   refine wp_region_held_drew (S:=(fun w'=>w'.cell? ⟨w2.heap.size,2,none⟩=some (.slice (some ⟨pk,0,none⟩) L.length pc)∧(∀ j,j<L.length→w'.cell? ⟨pk,j * 3,none⟩=some (.bool (f j).1.neg))∧(∀ j,j<L.length→w'.cell? ⟨pk,j * 3+1,none⟩=some (.string (f j).1.cls))∧∀ j,j<L.length→w'.cell? ⟨pk,j * 3+2,none⟩=some (f j).2)) (by kernel_rfl) ?_ (fun hHeld=>?_)
   ·(try dsimp only)
    (first | with_reducible exact PS6.out | with_reducible exact PatS.alloc PS5.out _ | with_reducible exact PS5.out | with_reducible exact PS4.out | with_reducible exact PSd.out)
   refine tk 0 hHeld ?_
   (try simp only [pA,pZ,pS])
   refine tk 1 hHeld ?_
   (try simp only [pA,pZ,pS])
   refine tk 2 hHeld ?_
   (try simp only [pA,pZ,pS])
   refine tk 3 hHeld ?_
   (try simp only [pA,pZ,pS])
   refine tk 4 hHeld ?_
   (try simp only [pA,pZ,pS])
   refine tk 5 hHeld ?_
   (try simp only [pA,pZ,pS])
   refine tk 8 hHeld ?_
   (try simp only [pA,pZ,pS])
   refine tk 9 hHeld ?_
   (try simp only [pA,pZ,pS])
   refine tk 10 hHeld ?_
   (try simp only [pA,pZ,pS])
   refine tk 14 hHeld ?_
   (try simp only [pA,pZ,pS])
   refine wpAnyH_ready (rs:=[6]) (by kernel_rfl) (by simp) ?_
   refine AllReadyH.cons (o:=?o1) ?ho1 (fun K hK=>?step1) AllReadyH.nil
   case ho1=>(simp only [List.getElem?_toArray,List.getElem?_cons_succ,List.getElem?_cons_zero];rfl)
   go_simp
   (go_at_call 49;refine (zbf g _ HRD.out).mono ?_;rintro e w4 ⟨n3,hn3,rfl,hr4⟩;have R4:=hidR ((R3.out.bel (Below.refl _ _).drew).trans hr4);have hs4:=hr4.1.rest.size;(try simp at hs4);have q4:=zgI hr4 q3d (by omega);obtain ⟨ip,hip⟩:∃ ip,ip=(j+n3) % L.length:=⟨_,rfl⟩;have hipL:ip<L.length:=(by rw [hip];exact Nat.mod_lt _ (by omega));have hipe:((j:Int)+(n3:Int)) % (L.length:Int)=(ip:Int):=(by rw [hip];push_cast;rfl);have hipt:((j:Int)+(n3:Int)).tmod (L.length:Int)=(ip:Int):=(by rw [hip];rw [← Int.natCast_add];first | exact (Int.ofNat_tmod _ _).symm | rfl);have hwr:IntKind.i64.wrap ((j:Int)+(n3:Int))=(j:Int)+(n3:Int):=(by rw [IntKind.wrap_i64];omega);have hipI:(ip:Int)<(L.length:Int):=(by omega);have hip0:(0:Int)≤(ip:Int):=(by omega);have Q4:=hidR (zaC hr4 Q3b.out (by omega));have PO4:=hidR (POd.out.rsT hr4 HRD.out);have FO4:=hidR (FOd.out.rs hr4 hgw);have PS4:=hidR (PatS.of q4 PO4.out HF.out);have PY:=hidR (PO4.out.2 (f ip) (List.mem_of_getElem? (HF.out ip hipL)));clear hr4 hip q4)
   (try go_wp2_with fail)
   refine hK.out _ _ ?hS2 (fun hHeld'=>?rest2)
   case hS2=>((try dsimp only);(first | with_reducible exact PS6.out | with_reducible exact PatS.alloc PS5.out _ | with_reducible exact PS5.out | with_reducible exact PS4.out | with_reducible exact PSd.out))
   clear hK K
   (first | simp only [pA,pZ,pS] | simp only [pN] | skip)
   clear hHeld
   have hHeld:=hHeld'
   clear hHeld'
   refine tk 7 hHeld ?_
   (try simp only [pA,pZ,pS])
   refine tk 11 hHeld ?_
   (try simp only [pA,pZ,pS])
   refine tk 12 hHeld ?_
   (try simp only [pA,pZ,pS])
   refine tk 13 hHeld ?_
   (try simp only [pA,pZ,pS])
   refine wpAnyH_ready (rs:=[15]) (by kernel_rfl) (by simp) ?_
   refine AllReadyH.cons (o:=?o3) ?ho3 (fun K hK=>?step3) AllReadyH.nil
   case ho3=>(simp only [List.getElem?_toArray,List.getElem?_cons_succ,List.getElem?_cons_zero];rfl)
   go_simp
   (go_at_call 85;refine (zjr g base (f ip) _ w4 R4.out.2 PY.out).mono ?_;rintro e w5 ⟨sa,sc,vs,rfl,hv3,hsown,hvs,hr5⟩;have S5:=hidR hsown;have V5:=hidR hvs;have R5:=hidR ((R4.out).trans hr5);have hs5:=hr5.1.rest.size;(try simp at hs5);have HCL:=hidR PY.out.2.2.1;have FO5:=hidR (FO4.out.rs hr5 hgw);have PS5:=hidR (PatS.of (zgI hr5 PS4.out.1 (by omega)) (PO4.out.rsT hr5 R4.out.2) HF.out);have HW5:=hidR (fun o=>(Below.refl _ _).alloc (Nat.le_refl _) o:∀ o,Below w5.heap.size w5 (w5.alloc o));have TY:=hidR (fun o k hk=>zah (zai FO5.out.1 (HW5.out o)) (k:=k) hk);have Q5:=hidR (zaC hr5 Q4.out (by omega));have QT5:=hidR (fun o=>(⟨_,((HW5.out o).block _ (zab Q5.out)).trans Q5.out⟩:∃ c,(w5.alloc o).heap[w2.heap.size]?=some (.cells c 35 (0,0))));have PO5:=hidR (PO4.out.rsT hr5 R4.out.2);have PKT:=hidR (fun o=>zah (zai PO5.out.1 (HW5.out o)) (k:=pk) rfl);clear hsown hvs hr5)
   (try go_wp2_with fail)
   refine hK.out _ _ ?hS4 (fun hHeld'=>?rest4)
   case hS4=>((try dsimp only);(first | with_reducible exact PS6.out | with_reducible exact PatS.alloc PS5.out _ | with_reducible exact PS5.out | with_reducible exact PS4.out | with_reducible exact PSd.out))
   clear hK K
   (first | simp only [pA,pZ,pS] | simp only [pN] | skip)
   clear hHeld
   have hHeld:=hHeld'
   clear hHeld'
   refine wpAnyH_ready (rs:=[16]) (by kernel_rfl) (by simp) ?_
   refine AllReadyH.cons (o:=?o5) ?ho5 (fun K hK=>?step5) AllReadyH.nil
   case ho5=>(simp only [List.getElem?_toArray,List.getElem?_cons_succ,List.getElem?_cons_zero];rfl)
   go_simp
   refine hK.out _ _ ?hS6 (fun hHeld'=>?rest6)
   case hS6=>((try dsimp only);(first | with_reducible exact PS6.out | with_reducible exact PatS.alloc PS5.out _ | with_reducible exact PS5.out | with_reducible exact PS4.out | with_reducible exact PSd.out))
   clear hK K
   (first | simp only [pA,pZ,pS] | simp only [pN] | skip)
   clear hHeld
   have hHeld:=hHeld'
   clear hHeld'
   refine wpAnyH_ready (rs:=[17]) (by kernel_rfl) (by simp) ?_
   refine AllReadyH.cons (o:=?o7) ?ho7 (fun K hK=>?step7) AllReadyH.nil
   case ho7=>(simp only [List.getElem?_toArray,List.getElem?_cons_succ,List.getElem?_cons_zero];rfl)
   (refine zaq (by rfl) (.tmp 39) (.tmp 55) 24 (by rfl) w.heap.size 42 _ 3 48 Tryz.underlying24 znf (by rfl) (by omega) _ Fs.length _ (by rfl) (zai FO5.out.1 (HW5.out _)) (some ⟨_,0,none⟩) 1 1 (by rfl) (fxcells (⟨tag+(1+(n7:Int) % 2),(f ip).1.cls,vs⟩,.slice sa vs.length sc)) (by rfl) (fun e=>by cases e) (zaw _ _ _ _ (by simp)) (by intro u hu;simp [fxcells] at hu;rcases hu with rfl | rfl | rfl <;> rfl) (by unfold maxLen;omega) (by omega) (by simp;omega) ?_;intro a9 c9 w9 ho9 hg9 hl9;have PS6:=hidR (PatS.grown (PatS.alloc PS5.out _) hg9.out (TY.out _) (QT5.out _) (PKT.out _)))
   refine hK.out _ _ ?hS8 (fun hHeld'=>?rest8)
   case hS8=>((try dsimp only);(first | with_reducible exact PS6.out | with_reducible exact PatS.alloc PS5.out _ | with_reducible exact PS5.out | with_reducible exact PS4.out | with_reducible exact PSd.out))
   clear hK K
   (first | simp only [pA,pZ,pS] | simp only [pN] | skip)
   clear hHeld
   have hHeld:=hHeld'
   clear hHeld'
   refine tk 18 hHeld ?_
   (try simp only [pA,pZ,pS])
   refine wpAnyH_done (by kernel_rfl) ?_ _
   refine NoPanic.normal ?_
   go_wp2_with fail
   go_roundw
   case rel=>
    have hFx:∀ o,FxP (w5.alloc o) w.heap.size (⟨tag+(1+(n7:Int) % 2),(f ip).1.cls,vs⟩,.slice sa vs.length sc):=fun o=>⟨⟨⟨sa,sc,rfl⟩,zai (zar S5.out (by have:=R4.out.1.rest.size;omega)) (HW5.out o)⟩,HCL.out,hv3,V5.out⟩
    refine ⟨j - 1,a9,c9,Fs ++ [(⟨tag+(1+(n7:Int) % 2),(f ip).1.cls,vs⟩,.slice sa vs.length sc)],tag+(1+(n7:Int) % 2),?_,rfl,by simp,by simp;omega,by simp;have:=HJ.out;omega,FsO.snoc (FO5.out.bel (HW5.out _)) (hFx _) ho9.out hg9.out,(R5.out.bel (HW5.out _)).grown hg9.out (fun k hk=>(FO5.out.1.lt k hk).1) hlt⟩
    rw [show ((j - 1:Nat):Int)=(j:Int) - 1 by omega]
   case measure=>(simp [intOf];omega)
end Go.Proofs.YtmmdlgjmplddiaaGreat
namespace Go.Proofs.YtmmdlgjmplddiaaGreat
open Go.RowKit
end Go.Proofs.YtmmdlgjmplddiaaGreat
namespace Go.Proofs.YtmmdlgjmplddiaaGreat
open Go.RowKit
end Go.Proofs.YtmmdlgjmplddiaaGreat
namespace Go.Proofs.YtmmdlgjmplddiaaGreat
open Go.RowKit
end Go.Proofs.YtmmdlgjmplddiaaGreat
namespace Go.Proofs.YtmmdlgjmplddiaaGreat
open Go.RowKit
theorem zoh:(Tryz.prog.info? 109).map (fun i=>(i.zero,i.size,i.bytes))=some (some (.agg #[.int .i64 0,.int .i64 0,.string ByteArray.empty]),3,32):=by kernel_rfl
end Go.Proofs.YtmmdlgjmplddiaaGreat
namespace Go.Proofs.YtmmdlgjmplddiaaGreat
open Go.RowKit
theorem znN:(Tryz.prog.info? 42).map (fun i=>(i.zero,i.size,i.bytes))=some (some (.agg #[.int .i64 0,.string ByteArray.empty,.slice none 0 0]),3,48):=by kernel_rfl
structure ziG (w:World) (g:Nat) (N:Nat) (fs:List F) (gs:List Nat):Prop where
 len:gs.length=fs.length
 own:OwnB w g 42 3 N ((fs.zip gs).map fun p=>fcells p.1 (.slice (some ⟨p.2,0,none⟩) p.1.slots.length p.1.slots.length))
 each:∀ (i:Nat) (f:F) (h:Nat),fs[i]?=some f→gs[i]?=some h→OwnB w h 109 3 f.slots.length (f.slots.map V.cells)
 gt:∀ h∈gs,g<h
 nodup:gs.Nodup
theorem ziG.at {w:World}{g N:Nat}{fs:List F}{gs:List Nat} (h:ziG w g N fs gs):zaG w (some ⟨g,0,none⟩) fs:=by
 intro i f hf
 obtain ⟨hi,rfl⟩:=List.getElem?_eq_some_iff.1 hf
 have hg:gs[i]?=some (gs[i]'(by rw [h.len];exact hi)):=List.getElem?_eq_getElem _
 have hz:((fs.zip gs).map fun p=>fcells p.1 (.slice (some ⟨p.2,0,none⟩) p.1.slots.length p.1.slots.length))[i]?=some (fcells fs[i] (.slice (some ⟨gs[i]'(by rw [h.len];exact hi),0,none⟩) fs[i].slots.length fs[i].slots.length)):=by
  rw [List.getElem?_map,List.getElem?_zip_eq_some (z:=(fs[i],gs[i]'(by rw [h.len];exact hi))) |>.2 ⟨hf,hg⟩]
  rfl
 refine ⟨g,0,rfl,?_,?_,some ⟨gs[i]'(by rw [h.len];exact hi),0,none⟩,fs[i].slots.length,?_,zaY.own (h.each i _ _ hf hg)⟩
 ·simpa using h.own.cell hz (j:=0) rfl
 ·simpa using h.own.cell hz (j:=1) rfl
 ·simpa using h.own.cell hz (j:=2) rfl
theorem ziG.lt {w:World}{g N:Nat}{fs:List F}{gs:List Nat} (h:ziG w g N fs gs):g<w.heap.size∧∀ x∈gs,x<w.heap.size:=by
 refine ⟨h.own.lt,fun x hx=>?_⟩
 obtain ⟨i,hi,rfl⟩:=List.getElem_of_mem hx
 have hf:i<fs.length:=by rw [← h.len];exact hi
 exact (h.each i fs[i] gs[i] (List.getElem?_eq_getElem hf) (List.getElem?_eq_getElem hi)).lt
theorem ziG.below {w w':World}{g N B:Nat}{fs:List F}{gs:List Nat} (h:ziG w g N fs gs) (hb:Below B w w') (hB:w.heap.size≤B):ziG w' g N fs gs:=by
 have hl:=h.lt
 refine ⟨h.len,h.own.below hb (by omega),fun i f x hf hx=>(h.each i f x hf hx).below hb ?_,h.gt,h.nodup⟩
 have:=hl.2 x (List.mem_of_getElem? hx)
 omega
end Go.Proofs.YtmmdlgjmplddiaaGreat
namespace Go.Proofs.YtmmdlgjmplddiaaGreat
open Go.RowKit
end Go.Proofs.YtmmdlgjmplddiaaGreat
namespace Go.Proofs.YtmmdlgjmplddiaaGreat
open Go.RowKit
attribute [local go_sem ↓] Go.wp_at_zero Go.wp_at_succ
end Go.Proofs.YtmmdlgjmplddiaaGreat
namespace Go.Proofs.YtmmdlgjmplddiaaGreat
open Go.RowKit
attribute [local go_sem ↓] Go.wp_at_zero Go.wp_at_succ
end Go.Proofs.YtmmdlgjmplddiaaGreat
namespace Go.Proofs.YtmmdlgjmplddiaaGreat
open Go.RowKit
attribute [local go_sem ↓] Go.wp_at_zero Go.wp_at_succ
end Go.Proofs.YtmmdlgjmplddiaaGreat
namespace Go.Proofs.YtmmdlgjmplddiaaGreat
open Go.RowKit
attribute [local go_sem ↓] Go.wp_at_zero Go.wp_at_succ
set_option maxHeartbeats 800000 in
theorem zb4 (a:Option Addr) (c:Nat) (vs:List V) (w:World) (hv:zaY w a vs) (hl:vs.length≤1048576) (hs:∀ v∈vs,v.sym.size≤maxLen) :
  Calls Tryz.prog 88 #[.slice a vs.length c] w fun e w'=>
   e=.returned (.bool (zbp vs))∧Below w.heap.size w w':=by
 obtain ⟨G⟩:Nonempty (Hid (zbp vs=(decide (vs.length≤6) && vs.all gVal))):=⟨rfl⟩
 by_cases h6:6<vs.length
 ·have h6':(6:Int)<(vs.length:Int):=by omega
  go_enter Tryz.func88,Tryz.ntmps88
  go_wp2
  go_ret
  exact ⟨zac (by rw [G.out,decide_eq_false (by omega)];rfl),Below.refl _ _⟩
 ·have h6':¬ (6:Int)<(vs.length:Int):=by omega
  go_enter Tryz.func88,Tryz.ntmps88
  go_wp2
  go_loopw [10] (fun i wr=>∃ (k:Nat),k≤vs.length∧i=.int .i64 k∧zbp vs=(vs.drop k).all gVal∧Below w.heap.size w wr) (fun i _=>vs.length - (intOf i).toNat)
  case atStart=>exact ⟨0,by omega,rfl,by rw [G.out,decide_eq_true (by omega)];rfl,Below.refl _ _⟩
  case round=>
   obtain ⟨k,hk,rfl,hG,hb⟩:=hrel
   have HG:Hid (zbp vs=(vs.drop k).all gVal):=hG
   clear hG
   by_cases hkl:k<vs.length
   ·obtain ⟨v,hvk⟩:∃ v,vs[k]?=some v:=⟨vs[k],by simp [hkl]⟩
    obtain ⟨b,o,rfl,c0,c1,c2⟩:=hv.below hb k v hvk
    have hsv:v.sym.size≤maxLen:=hs v (List.mem_of_getElem? hvk)
    have HD:Hid (vs.drop k=v :: vs.drop (k+1)):=by
     obtain ⟨h,rfl⟩:=List.getElem?_eq_some_iff.1 hvk
     exact List.drop_eq_getElem_cons h
    have B1:∀ o,Below wr.heap.size wr (wr.alloc o):=fun o=>(Below.refl _ _).alloc (Nat.le_refl _) _
    cases hgv:gVal v
    all_goals
     go_wp2_with (go_at_call 110;refine (zcr v _ hsv).mono ?_;rintro e w' ⟨rfl,hb'⟩)
    ·go_ret
     exact ⟨zac (by rw [HG.out,HD.out,List.all_cons,hgv];rfl),hb.trans (((B1 _).trans (hb'.mono (by simp))).mono hb.size)⟩
    ·go_roundw
     case rel=>exact ⟨k+1,by omega,by go_num,by rw [HG.out,HD.out,List.all_cons,hgv];rfl,hb.trans (((B1 _).trans (hb'.mono (by simp))).mono hb.size)⟩
     case measure=>simp [intOf];omega
   ·go_wp2
    go_ret
    exact ⟨zac (by rw [HG.out,List.drop_eq_nil_of_le (by omega)];rfl),hb⟩
end Go.Proofs.YtmmdlgjmplddiaaGreat
namespace Go.Proofs.YtmmdlgjmplddiaaGreat
open Go.RowKit
attribute [local go_sem ↓] Go.wp_at_zero Go.wp_at_succ
theorem zaM {a b:ByteArray}:(a.toList==b.toList)=decide (a=b):=by
 rw [← beq_toListBytes]
 by_cases h:a=b
 ·subst h
  rw [beq_toListBytes]
  simp
 ·rw [decide_eq_false h,beq_toListBytes]
  simp only [beq_eq_false_iff_ne,ne_eq,ByteArray.toList_eq]
  intro e
  exact h (Go.WideShapes.bytes_inj e)
theorem veq {v u:V} (h1:(v.kind==u.kind)=true) (h2:(v.num==u.num)=true) (h3:(v.sym.toList==u.sym.toList)=true):v=u:=by
 rw [zaM] at h3
 exact V.same (by simpa using h1) (by simpa using h2) (by simpa using h3)
theorem zmX {v u:V}{l l':List V} (h:v=u):decide (v :: l=u :: l')=decide (l=l'):=by
 subst h
 by_cases e:l=l' <;> simp [e]
theorem zmQ {v u:V}{l l':List V} (h:v≠u):decide (v :: l=u :: l')=false:=by
 simp [h]
end Go.Proofs.YtmmdlgjmplddiaaGreat
