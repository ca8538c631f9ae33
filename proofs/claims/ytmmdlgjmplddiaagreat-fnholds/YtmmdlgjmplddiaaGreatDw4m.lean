/-
  OUR OWN TEXT. The model's draws: an expr: the walk (written by genrn4.py).
-/
import Derived.Test.YtmmdlgjmplddiaaGreatDw4hm
namespace Go.Proofs.YtmmdlgjmplddiaaGreat
open Go.RowKit
attribute [local go_sem ↓] Go.wp_at_zero Go.wp_at_succ
set_option maxRecDepth 100000 in
set_option maxHeartbeats 6400000 in
theorem zhQ (K:List ByteArray) (g b base:Nat) (x0 x1 x2 x4:Value) (ka:Option Addr) (kn kc:Nat) (hgb:g<b) (hbb:b<base) (d:Nat) (a:Option Addr) (c:Nat) (xs:List Ex) (w:World) (hd:d≤8) (h:Rdr w g) (hq:QB w b base x0 x1 x2 x4 a c xs) (hk:ze1 K w g b base ka kn) (hbase:base≤w.heap.size) (hlen:xs.length+fD d≤100000)
  (IH:∀ d',d=d'+1→∀ (a:Option Addr) (c:Nat) (xs:List Ex) (w:World),Rdr w g→QB w b base x0 x1 x2 x4 a c xs→ze1 K w g b base ka kn→base≤w.heap.size→xs.length+fD d'≤100000→Calls Tryz.prog 148 #[.pointer (some ⟨g,0,none⟩),.pointer (some ⟨b,0,none⟩),.slice ka kn kc,.int .i64 (d':Int)] w (QPost K g b base x0 x1 x2 x4 a c xs d' w)) :
  Calls Tryz.prog 148 #[.pointer (some ⟨g,0,none⟩),.pointer (some ⟨b,0,none⟩),.slice ka kn kc,.int .i64 (d:Int)] w (QPost K g b base x0 x1 x2 x4 a c xs d w):=by
 have hfd:1≤fD d:=by cases d <;> simp [fD]
 have HIH:=hidR IH
 have H:=hidR h
 have hlt:=h.lt
 clear h IH
 go_enter Tryz.func148,Tryz.ntmps148
 go_wp2_with fail
 refine (zbf g _ H.out).mono ?_
 rintro e w1 ⟨u,hu,rfl,hr⟩
 have hR1:=hidR hr
 have HQ1:=hidR (hq.rs hr (by omega) (by omega))
 have HK1:=hidR (hk.keep (w':=w1) (fun k _ hl hg _=>hr.1.block k hl (fun e=>by injection e with e;omega)))
 have hs1:=hr.1.rest.size
 have HOL:=hidR (fun k (e:(Value.slice a xs.length c).ownBlock=some k)=>(HQ1.out.2.1.lt k e).2)
 have hb1:b<w1.heap.size:=zab HQ1.out.1
 have c3:w1.cell? ⟨b,3,none⟩=some (.slice a xs.length c):=by simp [World.cell?,HQ1.out.1]
 have HA:=hidR (fun o=>(Below.refl _ _).alloc (Nat.le_refl _) o:∀ o,Below w1.heap.size w1 (w1.alloc o))
 have HR1:=hidR (fun o=>hR1.out.2.bel (HA.out o))
 have hlen1:xs.length+1≤100000:=by omega
 clear hr hq hk H
 by_cases h5:u % 5=0
 ·by_cases hk0:kn=0
  ·subst hk0
   go_wp2_with fail
   refine (zcg g _ (HR1.out _)).mono ?_
   rintro e w2 ⟨v,hv,rfl,hr2⟩
   have hR2:=hidR ((hR1.out.bel (HA.out _)).trans hr2)
   have HEB:=hidR (zaC hr2 (heap_alloc_new _ _) (by omega))
   have HQ2:=hidR ((HQ1.out.bel (HA.out _)).rs hr2 (by omega) (by omega))
   clear hr2
   unfold vV
   go_wp2_with (first | (refine zbG (by rfl) 109 (.tmp 18) (.tmp 17) (by rfl) w1.heap.size 3 (V.cells v) (by rfl) (by rfl) _ 240 HEB.out (by simp [V.cells]) zdY (V.cells_one _) (zbb ⟨0,0,⟨#[]⟩,v,0,0⟩).toArray (by rfl) ?_;intro wt hE ht) | fail)
   obtain ⟨E,hEE⟩:∃ E:Ex,E=⟨0,0,⟨#[]⟩,v,0,0⟩:=⟨_,rfl⟩
   have hEs:ExSm E:=by rw [hEE];exact ⟨Nat.zero_le 20,hv,Int.le_refl 0,(by decide:(0:Int)<256)⟩
   have hEl:Leaf K E:=by rw [hEE];exact .inl ⟨v,hv.2.2.2.2,rfl⟩
   rw [← hEE] at hE
   have HQ:=hidR (HQ2.out.turned ht.out (by omega) (fun e=>by have:=HOL.out _ e;omega))
   have hQs:=hidR (Qs.of (b:=b) (o:=(Value.slice a xs.length c).ownBlock) (hR2.out.turned ht.out (by omega) hlt))
   have hN:=hidR (zcA.refl w.heap.size (Value.slice a xs.length c).ownBlock)
   have hsT:base≤wt.heap.size:=by have:=hQs.out.rest.size;omega
   clear HQ2 HQ1 hR1 HR1 hR2 HEB HOL HA ht hEE hv c3
   have hbT:b<wt.heap.size:=zab HQ.out.1
   have cq3:wt.cell? ⟨b,3,none⟩=some (.slice a xs.length c):=by simp [World.cell?,HQ.out.1]
   obtain ⟨t0,t1,t2,t3,t4,t5,t6,t7⟩:=box8 hE.out
   have HOW:=hidR (fun W (h:Below wt.heap.size wt W)=>zaf HQ.out.2.1 (fun k hk=>h.block k (HQ.out.2.1.lt k hk).2))
   have HWA:=hidR (fun o=>(Below.refl wt.heap.size wt).drew.alloc (Nat.le_refl _) o:∀ o,Below wt.heap.size wt (wt.drew.alloc o))
   go_wp2_with fail
   go_region_law (refine zaq (by rfl) (.tmp 79) (.tmp 81) 32 (by rfl) base 240 _ 8 80 Tryz.underlying32 zeh (by rfl) (by omega) _ xs.length _ (by rfl) (HOW.out _ ?_) (some ⟨_,0,none⟩) 1 1 (by rfl) (zbb E) (by rfl) (fun e=>by cases e) (zaw _ _ _ _ (by simp)) (zbD E) (by unfold maxLen;omega) (by omega) (by first | (simp;omega) | omega) ?_;exact HWA.out _;intro a3 c3 w3 ho3 hg3 hl3;obtain ⟨k3,z3⟩:=zea HQ.out (HWA.out _) hg3.out hbb)
   all_goals
    go_wp2_with fail
    go_ret
    obtain ⟨r1,r2,r3⟩:=zj5 HQ.out hEs hQs.out hN.out (HWA.out _) ho3.out hg3.out hl3.out hgb hbb (by omega)
    exact ⟨a3,c3,xs ++ [E],r1,by first | (simp;done) | (simp;omega),by first | (simp;done) | (simp;omega),zaX (by simp),r2,by simpa using r3,⟨[E],rfl,Tree.leaf hEl⟩,fun _=>by simp⟩
  ·have hk0':(0:Int)<(kn:Int):=by omega
   obtain ⟨k,hk⟩:∃ k,k=u / 5 % kn:=⟨_,rfl⟩
   have hkn:k<kn:=by rw [hk];exact Nat.mod_lt _ (by omega)
   have hki:(u:Int) / 5 % (kn:Int)=(k:Int):=by rw [hk];first | (norm_cast;done) | (simp;done) | (push_cast;rfl)
   have hkI:(k:Int)<(kn:Int):=by omega
   have hk00:(0:Int)≤(k:Int):=by omega
   obtain ⟨kb,ko,sw,rfl,hgk,hkb,hkbase,hss,hcs⟩:=HK1.out.2 k hkn
   have hkb1:kb<w1.heap.size:=by omega
   clear hk
   go_wp2_with (first | (refine zak (by rfl) 240 (.tmp 10) (.tmp 74) (by rfl) w1.heap.size (zbb ⟨1,0,sw,(0,0,⟨#[]⟩),0,0⟩) (by rfl) (by rfl) _ 240 (heap_alloc_new _ _) (by rfl) zlc (zbD _) ?_;intro wt hE ht) | fail)
   obtain ⟨E,hEE⟩:∃ E:Ex,E=⟨1,0,sw,(0,0,⟨#[]⟩),0,0⟩:=⟨_,rfl⟩
   have hEs:ExSm E:=by rw [hEE];exact ⟨hss.1,zdP,Int.le_refl 0,(by decide:(0:Int)<256)⟩
   have hEl:Leaf K E:=by rw [hEE];exact .inr ⟨sw,hss.2.2,rfl⟩
   rw [← hEE] at hE
   have HQ:=hidR ((HQ1.out.bel (HA.out _)).turned ht.out (by omega) (fun e=>by have:=HOL.out _ e;omega))
   have hQs:=hidR (Qs.of (b:=b) (o:=(Value.slice a xs.length c).ownBlock) ((hR1.out.bel (HA.out _)).turned ht.out (by omega) hlt))
   have hN:=hidR (zcA.refl w.heap.size (Value.slice a xs.length c).ownBlock)
   have hsT:base≤wt.heap.size:=by have:=hQs.out.rest.size;omega
   clear HQ1 hR1 HR1 HOL HA ht hEE c3 hki hcs HK1
   have hbT:b<wt.heap.size:=zab HQ.out.1
   have cq3:wt.cell? ⟨b,3,none⟩=some (.slice a xs.length c):=by simp [World.cell?,HQ.out.1]
   obtain ⟨t0,t1,t2,t3,t4,t5,t6,t7⟩:=box8 hE.out
   have HOW:=hidR (fun W (h:Below wt.heap.size wt W)=>zaf HQ.out.2.1 (fun k hk=>h.block k (HQ.out.2.1.lt k hk).2))
   have HWA:=hidR (fun o=>(Below.refl wt.heap.size wt).drew.alloc (Nat.le_refl _) o:∀ o,Below wt.heap.size wt (wt.drew.alloc o))
   go_wp2_with fail
   go_region_law (refine zaq (by rfl) (.tmp 79) (.tmp 81) 32 (by rfl) base 240 _ 8 80 Tryz.underlying32 zeh (by rfl) (by omega) _ xs.length _ (by rfl) (HOW.out _ ?_) (some ⟨_,0,none⟩) 1 1 (by rfl) (zbb E) (by rfl) (fun e=>by cases e) (zaw _ _ _ _ (by simp)) (zbD E) (by unfold maxLen;omega) (by omega) (by first | (simp;omega) | omega) ?_;exact HWA.out _;intro a3 c3 w3 ho3 hg3 hl3;obtain ⟨k3,z3⟩:=zea HQ.out (HWA.out _) hg3.out hbb)
   all_goals
    go_wp2_with fail
    go_ret
    obtain ⟨r1,r2,r3⟩:=zj5 HQ.out hEs hQs.out hN.out (HWA.out _) ho3.out hg3.out hl3.out hgb hbb (by omega)
    exact ⟨a3,c3,xs ++ [E],r1,by first | (simp;done) | (simp;omega),by first | (simp;done) | (simp;omega),zaX (by simp),r2,by simpa using r3,⟨[E],rfl,Tree.leaf hEl⟩,fun _=>by simp⟩
 have h5':¬ (u:Int) % 5=0:=by omega
 by_cases h52:u % 5≤2
 ·have h52':¬ (2:Int)<(u:Int) % 5:=by omega
  go_wp2_with fail
  refine (zcg g _ (HR1.out _)).mono ?_
  rintro e w2 ⟨v,hv,rfl,hr2⟩
  have hR2:=hidR ((hR1.out.bel (HA.out _)).trans hr2)
  have HEB:=hidR (zaC hr2 (heap_alloc_new _ _) (by omega))
  have HQ2:=hidR ((HQ1.out.bel (HA.out _)).rs hr2 (by omega) (by omega))
  clear hr2
  unfold vV
  go_wp2_with (first | (refine zbG (by rfl) 109 (.tmp 18) (.tmp 17) (by rfl) w1.heap.size 3 (V.cells v) (by rfl) (by rfl) _ 240 HEB.out (by simp [V.cells]) zdY (V.cells_one _) (zbb ⟨0,0,⟨#[]⟩,v,0,0⟩).toArray (by rfl) ?_;intro wt hE ht) | fail)
  obtain ⟨E,hEE⟩:∃ E:Ex,E=⟨0,0,⟨#[]⟩,v,0,0⟩:=⟨_,rfl⟩
  have hEs:ExSm E:=by rw [hEE];exact ⟨Nat.zero_le 20,hv,Int.le_refl 0,(by decide:(0:Int)<256)⟩
  have hEl:Leaf K E:=by rw [hEE];exact .inl ⟨v,hv.2.2.2.2,rfl⟩
  rw [← hEE] at hE
  have HQ:=hidR (HQ2.out.turned ht.out (by omega) (fun e=>by have:=HOL.out _ e;omega))
  have hQs:=hidR (Qs.of (b:=b) (o:=(Value.slice a xs.length c).ownBlock) (hR2.out.turned ht.out (by omega) hlt))
  have hN:=hidR (zcA.refl w.heap.size (Value.slice a xs.length c).ownBlock)
  have hsT:base≤wt.heap.size:=by have:=hQs.out.rest.size;omega
  clear HQ2 HQ1 hR1 HR1 hR2 HEB HOL HA ht hEE hv c3
  have hbT:b<wt.heap.size:=zab HQ.out.1
  have cq3:wt.cell? ⟨b,3,none⟩=some (.slice a xs.length c):=by simp [World.cell?,HQ.out.1]
  obtain ⟨t0,t1,t2,t3,t4,t5,t6,t7⟩:=box8 hE.out
  have HOW:=hidR (fun W (h:Below wt.heap.size wt W)=>zaf HQ.out.2.1 (fun k hk=>h.block k (HQ.out.2.1.lt k hk).2))
  have HWA:=hidR (fun o=>(Below.refl wt.heap.size wt).drew.alloc (Nat.le_refl _) o:∀ o,Below wt.heap.size wt (wt.drew.alloc o))
  go_wp2_with fail
  go_region_law (refine zaq (by rfl) (.tmp 79) (.tmp 81) 32 (by rfl) base 240 _ 8 80 Tryz.underlying32 zeh (by rfl) (by omega) _ xs.length _ (by rfl) (HOW.out _ ?_) (some ⟨_,0,none⟩) 1 1 (by rfl) (zbb E) (by rfl) (fun e=>by cases e) (zaw _ _ _ _ (by simp)) (zbD E) (by unfold maxLen;omega) (by omega) (by first | (simp;omega) | omega) ?_;exact HWA.out _;intro a3 c3 w3 ho3 hg3 hl3;obtain ⟨k3,z3⟩:=zea HQ.out (HWA.out _) hg3.out hbb)
  all_goals
   go_wp2_with fail
   go_ret
   obtain ⟨r1,r2,r3⟩:=zj5 HQ.out hEs hQs.out hN.out (HWA.out _) ho3.out hg3.out hl3.out hgb hbb (by omega)
   exact ⟨a3,c3,xs ++ [E],r1,by first | (simp;done) | (simp;omega),by first | (simp;done) | (simp;omega),zaX (by simp),r2,by simpa using r3,⟨[E],rfl,Tree.leaf hEl⟩,fun _=>by simp⟩
 have h52':(2:Int)<(u:Int) % 5:=by omega
 by_cases hd0:d=0
 ·subst hd0
  go_wp2_with fail
  refine (zcg g _ (HR1.out _)).mono ?_
  rintro e w2 ⟨v,hv,rfl,hr2⟩
  have hR2:=hidR ((hR1.out.bel (HA.out _)).trans hr2)
  have HEB:=hidR (zaC hr2 (heap_alloc_new _ _) (by omega))
  have HQ2:=hidR ((HQ1.out.bel (HA.out _)).rs hr2 (by omega) (by omega))
  clear hr2
  unfold vV
  go_wp2_with (first | (refine zbG (by rfl) 109 (.tmp 18) (.tmp 17) (by rfl) w1.heap.size 3 (V.cells v) (by rfl) (by rfl) _ 240 HEB.out (by simp [V.cells]) zdY (V.cells_one _) (zbb ⟨0,0,⟨#[]⟩,v,0,0⟩).toArray (by rfl) ?_;intro wt hE ht) | fail)
  obtain ⟨E,hEE⟩:∃ E:Ex,E=⟨0,0,⟨#[]⟩,v,0,0⟩:=⟨_,rfl⟩
  have hEs:ExSm E:=by rw [hEE];exact ⟨Nat.zero_le 20,hv,Int.le_refl 0,(by decide:(0:Int)<256)⟩
  have hEl:Leaf K E:=by rw [hEE];exact .inl ⟨v,hv.2.2.2.2,rfl⟩
  rw [← hEE] at hE
  have HQ:=hidR (HQ2.out.turned ht.out (by omega) (fun e=>by have:=HOL.out _ e;omega))
  have hQs:=hidR (Qs.of (b:=b) (o:=(Value.slice a xs.length c).ownBlock) (hR2.out.turned ht.out (by omega) hlt))
  have hN:=hidR (zcA.refl w.heap.size (Value.slice a xs.length c).ownBlock)
  have hsT:base≤wt.heap.size:=by have:=hQs.out.rest.size;omega
  clear HQ2 HQ1 hR1 HR1 hR2 HEB HOL HA ht hEE hv c3
  have hbT:b<wt.heap.size:=zab HQ.out.1
  have cq3:wt.cell? ⟨b,3,none⟩=some (.slice a xs.length c):=by simp [World.cell?,HQ.out.1]
  obtain ⟨t0,t1,t2,t3,t4,t5,t6,t7⟩:=box8 hE.out
  have HOW:=hidR (fun W (h:Below wt.heap.size wt W)=>zaf HQ.out.2.1 (fun k hk=>h.block k (HQ.out.2.1.lt k hk).2))
  have HWA:=hidR (fun o=>(Below.refl wt.heap.size wt).drew.alloc (Nat.le_refl _) o:∀ o,Below wt.heap.size wt (wt.drew.alloc o))
  go_wp2_with fail
  go_region_law (refine zaq (by rfl) (.tmp 79) (.tmp 81) 32 (by rfl) base 240 _ 8 80 Tryz.underlying32 zeh (by rfl) (by omega) _ xs.length _ (by rfl) (HOW.out _ ?_) (some ⟨_,0,none⟩) 1 1 (by rfl) (zbb E) (by rfl) (fun e=>by cases e) (zaw _ _ _ _ (by simp)) (zbD E) (by unfold maxLen;omega) (by omega) (by first | (simp;omega) | omega) ?_;exact HWA.out _;intro a3 c3 w3 ho3 hg3 hl3;obtain ⟨k3,z3⟩:=zea HQ.out (HWA.out _) hg3.out hbb)
  all_goals
   go_wp2_with fail
   go_ret
   obtain ⟨r1,r2,r3⟩:=zj5 HQ.out hEs hQs.out hN.out (HWA.out _) ho3.out hg3.out hl3.out hgb hbb (by omega)
   exact ⟨a3,c3,xs ++ [E],r1,by first | (simp;done) | (simp;omega),by first | (simp;done) | (simp;omega),zaX (by simp),r2,by simpa using r3,⟨[E],rfl,Tree.leaf hEl⟩,fun _=>by simp⟩
 have hd0':(0:Int)<(d:Int):=by omega
 by_cases hl52:xs.length<52
 ·have hl52':(xs.length:Int)<52:=by omega
  obtain ⟨d',rfl⟩:∃ d',d=d'+1:=⟨d - 1,by omega⟩
  have hfD:fD (d'+1)=2 * fD d'+1:=rfl
  have hdd:((d'+1:Nat):Int) - 1=(d':Int):=by omega
  have hsA:∀ o,base≤(w1.alloc o).heap.size:=fun o=>by simp;omega
  have HKA:=hidR (fun o=>HK1.out.keep (w':=w1.alloc o) (fun k _ hl _ _=>(HA.out o).block k hl))
  go_wp2_with fail
  try rw [hdd]
  refine (HIH.out d' rfl a c xs _ (HR1.out _) (HQ1.out.bel (HA.out _)) (HKA.out _) (hsA _) (by omega)).mono ?_
  rintro e w2 ⟨a2,c2,xs2,hQ2,hl1,hl2,rfl,hq2,hn2,ht2,_⟩
  have HQ2:=hidR hQ2
  have hsz2:base≤w2.heap.size:=by have:=hq2.rest.size;have:=hsA (.cells #[] 0);simp at *;omega
  have hebn:(Value.slice a xs.length c).ownBlock≠some w1.heap.size:=fun e=>by have:=HOL.out _ e;omega
  have HE2:=hidR ((hq2.block w1.heap.size (by simp) (by omega) (by omega) hebn).trans (heap_alloc_new _ _))
  have HK2:=hidR ((HKA.out _).qs hq2 (fun k hk=>(HQ1.out.2.1.lt k hk).1))
  have hs2:w1.heap.size<w2.heap.size:=zab HE2.out
  have hb2:b<w2.heap.size:=by omega
  have hQs2:=hidR ((Qs.of (b:=b) (o:=(Value.slice a xs.length c).ownBlock) (hR1.out.bel (HA.out _))).trans hq2 (zcA.refl _ _))
  have HN2:=hidR (hn2.mono (N:=w.heap.size) (by simp;omega))
  have HN2':=hidR (hn2.mono (N:=w1.heap.size+1) (by simp))
  have HR2:=hidR hq2.rdr
  clear hq2 hn2 hQ2 HQ1 HK1 HKA HR1 hR1 c3 HA
  go_wp2_with fail
  try rw [hdd]
  refine (HIH.out d' rfl a2 c2 xs2 w2 HR2.out HQ2.out HK2.out hsz2 (by omega)).mono ?_
  rintro e w4 ⟨a4,c4,xs4,hQ4,hl3,hl4,rfl,hq4,hn4,ht4,_⟩
  have HQ4:=hidR hQ4
  have heb4:(Value.slice a2 xs2.length c2).ownBlock≠some w1.heap.size:=fun e=>by
   rcases HN2'.out with h | h
   ·exact hebn (by rw [← h,e])
   ·have:=h _ e;omega
  have HE4:=hidR ((hq4.block w1.heap.size hs2 (by omega) (by omega) heb4).trans HE2.out)
  have hs4:w1.heap.size<w4.heap.size:=zab HE4.out
  have hQs4:=hidR (hQs2.out.trans hq4 HN2.out)
  have HN4:=hidR (HN2.out.trans hn4 (by omega))
  have HN4':=hidR (HN2'.out.trans hn4 (by omega))
  have HAR:=hidR (fun o=>(Below.refl _ _).alloc (Nat.le_refl _) o:∀ o,Below w4.heap.size w4 (w4.alloc o))
  have hb4:b<w4.heap.size:=by omega
  have heb5:(Value.slice a4 xs4.length c4).ownBlock≠some w1.heap.size:=fun e=>by
   rcases HN4'.out with h | h
   ·exact hebn (by rw [← h,e])
   ·have:=h _ e;omega
  clear hq4 hn4 hQ4 HQ2 HK2 HR2 hQs2 HE2 HIH
  have hu5:u / 5 % 5=0∨u / 5 % 5=1∨u / 5 % 5=2∨u / 5 % 5=3∨u / 5 % 5=4:=by omega
  go_wp2_with fail
  refine (zjQ _).mono ?_
  rintro e w5 ⟨rfl,rfl⟩
  rcases hu5 with hu5 | hu5 | hu5 | hu5 | hu5
  all_goals
   go_wp2_with (first | (refine zak (by rfl) 240 (.tmp 10) (.tmp 56) (by rfl) w1.heap.size (zbb ⟨2,_,⟨#[]⟩,(0,0,⟨#[]⟩),(xs2.length:Int) - 1,(xs4.length:Int) - 1⟩) (by rfl) (by rfl) _ 240 (((HAR.out _).block _ hs4).trans HE4.out) (by rfl) zlc (zbD _) ?_;intro wt hE' ht;obtain ⟨E,hEs,hEo,hE⟩:=absE hE' (by first | rfl | decide) (by first | decide | (dsimp only;decide) | (simp;done)) (by first | decide | (dsimp only;decide) | (simp;done));clear hE') | fail)
   have HQ:=hidR ((HQ4.out.bel (HAR.out _)).turned ht.out (by omega) heb5)
   have hQs:=hidR ((hQs4.out.bel (HAR.out _)).turned ht.out (by omega) hlt)
   have hN:=hidR HN4.out
   have hsT:base≤wt.heap.size:=by have:=hQs.out.rest.size;omega
   clear HQ4 hQs4 HN4 HN4' HN2 HN2' HE4 HAR ht HOL hebn heb4 heb5
   have hbT:b<wt.heap.size:=zab HQ.out.1
   have cq3:wt.cell? ⟨b,3,none⟩=some (.slice a4 xs4.length c4):=by simp [World.cell?,HQ.out.1]
   obtain ⟨t0,t1,t2,t3,t4,t5,t6,t7⟩:=box8 hE.out
   have HOW:=hidR (fun W (h:Below wt.heap.size wt W)=>zaf HQ.out.2.1 (fun k hk=>h.block k (HQ.out.2.1.lt k hk).2))
   have HWA:=hidR (fun o=>(Below.refl wt.heap.size wt).drew.alloc (Nat.le_refl _) o:∀ o,Below wt.heap.size wt (wt.drew.alloc o))
   go_wp2_with fail
   go_region_law (refine zaq (by rfl) (.tmp 79) (.tmp 81) 32 (by rfl) base 240 _ 8 80 Tryz.underlying32 zeh (by rfl) (by omega) _ xs4.length _ (by rfl) (HOW.out _ ?_) (some ⟨_,0,none⟩) 1 1 (by rfl) (zbb E) (by rfl) (fun e=>by cases e) (zaw _ _ _ _ (by simp)) (zbD E) (by unfold maxLen;omega) (by omega) (by first | (simp;omega) | omega) ?_;exact HWA.out _;intro a3 c3 w3 ho3 hg3 hl3;obtain ⟨k3,z3⟩:=zea HQ.out (HWA.out _) hg3.out hbb)
   all_goals
    go_wp2_with fail
    go_ret
    obtain ⟨r1,r2,r3⟩:=zj5 HQ.out hEs hQs.out hN.out (HWA.out _) ho3.out hg3.out hl3.out hgb hbb (by omega)
    exact ⟨a3,c3,xs4 ++ [E],r1,by first | (simp;done) | (simp;omega),by first | (simp;done) | (simp;omega),zaX (by simp),r2,by simpa using r3,zm3 ht2 ht4 hEo,fun _=>by omega⟩
 ·have hl52':¬ (xs.length:Int)<52:=by omega
  go_wp2_with fail
  refine (zcg g _ (HR1.out _)).mono ?_
  rintro e w2 ⟨v,hv,rfl,hr2⟩
  have hR2:=hidR ((hR1.out.bel (HA.out _)).trans hr2)
  have HEB:=hidR (zaC hr2 (heap_alloc_new _ _) (by omega))
  have HQ2:=hidR ((HQ1.out.bel (HA.out _)).rs hr2 (by omega) (by omega))
  clear hr2
  unfold vV
  go_wp2_with (first | (refine zbG (by rfl) 109 (.tmp 18) (.tmp 17) (by rfl) w1.heap.size 3 (V.cells v) (by rfl) (by rfl) _ 240 HEB.out (by simp [V.cells]) zdY (V.cells_one _) (zbb ⟨0,0,⟨#[]⟩,v,0,0⟩).toArray (by rfl) ?_;intro wt hE ht) | fail)
  obtain ⟨E,hEE⟩:∃ E:Ex,E=⟨0,0,⟨#[]⟩,v,0,0⟩:=⟨_,rfl⟩
  have hEs:ExSm E:=by rw [hEE];exact ⟨Nat.zero_le 20,hv,Int.le_refl 0,(by decide:(0:Int)<256)⟩
  have hEl:Leaf K E:=by rw [hEE];exact .inl ⟨v,hv.2.2.2.2,rfl⟩
  rw [← hEE] at hE
  have HQ:=hidR (HQ2.out.turned ht.out (by omega) (fun e=>by have:=HOL.out _ e;omega))
  have hQs:=hidR (Qs.of (b:=b) (o:=(Value.slice a xs.length c).ownBlock) (hR2.out.turned ht.out (by omega) hlt))
  have hN:=hidR (zcA.refl w.heap.size (Value.slice a xs.length c).ownBlock)
  have hsT:base≤wt.heap.size:=by have:=hQs.out.rest.size;omega
  clear HQ2 HQ1 hR1 HR1 hR2 HEB HOL HA ht hEE hv c3
  have hbT:b<wt.heap.size:=zab HQ.out.1
  have cq3:wt.cell? ⟨b,3,none⟩=some (.slice a xs.length c):=by simp [World.cell?,HQ.out.1]
  obtain ⟨t0,t1,t2,t3,t4,t5,t6,t7⟩:=box8 hE.out
  have HOW:=hidR (fun W (h:Below wt.heap.size wt W)=>zaf HQ.out.2.1 (fun k hk=>h.block k (HQ.out.2.1.lt k hk).2))
  have HWA:=hidR (fun o=>(Below.refl wt.heap.size wt).drew.alloc (Nat.le_refl _) o:∀ o,Below wt.heap.size wt (wt.drew.alloc o))
  go_wp2_with fail
  go_region_law (refine zaq (by rfl) (.tmp 79) (.tmp 81) 32 (by rfl) base 240 _ 8 80 Tryz.underlying32 zeh (by rfl) (by omega) _ xs.length _ (by rfl) (HOW.out _ ?_) (some ⟨_,0,none⟩) 1 1 (by rfl) (zbb E) (by rfl) (fun e=>by cases e) (zaw _ _ _ _ (by simp)) (zbD E) (by unfold maxLen;omega) (by omega) (by first | (simp;omega) | omega) ?_;exact HWA.out _;intro a3 c3 w3 ho3 hg3 hl3;obtain ⟨k3,z3⟩:=zea HQ.out (HWA.out _) hg3.out hbb)
  all_goals
   go_wp2_with fail
   go_ret
   obtain ⟨r1,r2,r3⟩:=zj5 HQ.out hEs hQs.out hN.out (HWA.out _) ho3.out hg3.out hl3.out hgb hbb (by omega)
   exact ⟨a3,c3,xs ++ [E],r1,by first | (simp;done) | (simp;omega),by first | (simp;done) | (simp;omega),zaX (by simp),r2,by simpa using r3,⟨[E],rfl,Tree.leaf hEl⟩,fun _=>by simp⟩
end Go.Proofs.YtmmdlgjmplddiaaGreat
