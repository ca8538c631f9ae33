/-
  OUR OWN TEXT. Dw4, Dw5, one behind the other.
-/
import Derived.Test.YtmmdlgjmplddiaaGreatKbk
import Derived.Laws.BytesArg
namespace Go.Proofs.YtmmdlgjmplddiaaGreat
open Go.RowKit
attribute [local go_sem ↓] Go.wp_at_zero Go.wp_at_succ
set_option maxRecDepth 100000 in
set_option maxHeartbeats 6400000 in
theorem zij (K:List ByteArray) (g b base:Nat) (x0 x1 x2 x4:Value) (ka:Option Addr) (kn kc:Nat) (hgb:g<b) (hbb:b<base) (d:Nat) (a:Option Addr) (c:Nat) (xs:List Ex) (w:World) (hd:d≤8) (h:Rdr w g) (hq:QB w b base x0 x1 x2 x4 a c xs) (hk:zfE K w g b base ka kn) (hbase:base≤w.heap.size) (hlen:xs.length+fD d≤100000)
  (IH:∀ d',d=d'+1→∀ (a:Option Addr) (c:Nat) (xs:List Ex) (w:World),Rdr w g→QB w b base x0 x1 x2 x4 a c xs→zfE K w g b base ka kn→base≤w.heap.size→xs.length+fD d'≤100000→Calls Tryz.prog 148 #[.pointer (some ⟨g,0,none⟩),.pointer (some ⟨b,0,none⟩),.slice ka kn kc,.int .i64 (d':Int)] w (QPost K g b base x0 x1 x2 x4 a c xs d' w)) :
  Calls Tryz.prog 148 #[.pointer (some ⟨g,0,none⟩),.pointer (some ⟨b,0,none⟩),.slice ka kn kc,.int .i64 (d:Int)] w (QPost K g b base x0 x1 x2 x4 a c xs d w):=by
 have hfd:1≤fD d:=by cases d <;> simp [fD]
 have HIH:=hidR IH
 have H:=hidR h
 have hlt:=h.lt
 clear h IH
 go_enter Tryz.func148,Tryz.ntmps148
 go_wp2_with fail
 refine (zbb g _ H.out).mono ?_
 rintro e w1 ⟨u,hu,rfl,hr⟩
 have hR1:=hidR hr
 have HQ1:=hidR (hq.rs hr (by omega) (by omega))
 have HK1:=hidR (hk.keep (w':=w1) (fun k _ hl hg _=>hr.1.block k hl (fun e=>by injection e with e;omega)))
 have hs1:=hr.1.rest.size
 have HOL:=hidR (fun k (e:(Value.slice a xs.length c).ownBlock=some k)=>(HQ1.out.2.1.lt k e).2)
 have hb1:b<w1.heap.size:=zab HQ1.out.1
 have c3:w1.cell? ⟨b,3,none⟩=some (.slice a xs.length c):=by simp [World.cell?,HQ1.out.1]
 have HA:=hidR (fun o=>(Below.refl _ _).alloc (Nat.le_refl _) o:∀ o,Below w1.heap.size w1 (w1.alloc o))
 have HR1:=hidR (fun o=>hR1.out.2.bel (HA.out o))
 have hlen1:xs.length+1≤100000:=by omega
 clear hr hq hk H
 by_cases h5:u % 5=0
 ·by_cases hk0:kn=0
  ·subst hk0
   go_wp2_with fail
   refine (zck g _ (HR1.out _)).mono ?_
   rintro e w2 ⟨v,hv,rfl,hr2⟩
   have hR2:=hidR ((hR1.out.bel (HA.out _)).trans hr2)
   have HEB:=hidR (zaC hr2 (heap_alloc_new _ _) (by omega))
   have HQ2:=hidR ((HQ1.out.bel (HA.out _)).rs hr2 (by omega) (by omega))
   clear hr2
   unfold vV
   go_wp2_with (first | (refine zbG (by rfl) 109 (.tmp 18) (.tmp 17) (by rfl) w1.heap.size 3 (V.cells v) (by rfl) (by rfl) _ 240 HEB.out (by simp [V.cells]) zd5 (V.cells_one _) (zba ⟨0,0,⟨#[]⟩,v,0,0⟩).toArray (by rfl) ?_;intro wt hE ht) | fail)
   obtain ⟨E,hEE⟩:∃ E:Ex,E=⟨0,0,⟨#[]⟩,v,0,0⟩:=⟨_,rfl⟩
   have hEs:ExSm E:=by rw [hEE];exact ⟨Nat.zero_le 20,hv,Int.le_refl 0,(by decide:(0:Int)<256)⟩
   have hEl:Leaf K E:=by rw [hEE];exact .inl ⟨v,hv.2.2.2.2,rfl⟩
   rw [← hEE] at hE
   have HQ:=hidR (HQ2.out.turned ht.out (by omega) (fun e=>by have:=HOL.out _ e;omega))
   have hQs:=hidR (Qs.of (b:=b) (o:=(Value.slice a xs.length c).ownBlock) (hR2.out.turned ht.out (by omega) hlt))
   have hN:=hidR (zcD.refl w.heap.size (Value.slice a xs.length c).ownBlock)
   have hsT:base≤wt.heap.size:=by have:=hQs.out.rest.size;omega
   clear HQ2 HQ1 hR1 HR1 hR2 HEB HOL HA ht hEE hv c3
   have hbT:b<wt.heap.size:=zab HQ.out.1
   have cq3:wt.cell? ⟨b,3,none⟩=some (.slice a xs.length c):=by simp [World.cell?,HQ.out.1]
   obtain ⟨t0,t1,t2,t3,t4,t5,t6,t7⟩:=box8 hE.out
   have HOW:=hidR (fun W (h:Below wt.heap.size wt W)=>zae HQ.out.2.1 (fun k hk=>h.block k (HQ.out.2.1.lt k hk).2))
   have HWA:=hidR (fun o=>(Below.refl wt.heap.size wt).drew.alloc (Nat.le_refl _) o:∀ o,Below wt.heap.size wt (wt.drew.alloc o))
   go_wp2_with fail
   go_region_law (refine zao (by rfl) (.tmp 79) (.tmp 81) 32 (by rfl) base 240 _ 8 80 Tryz.underlying32 zek (by rfl) (by omega) _ xs.length _ (by rfl) (HOW.out _ ?_) (some ⟨_,0,none⟩) 1 1 (by rfl) (zba E) (by rfl) (fun e=>by cases e) (zav _ _ _ _ (by simp)) (zbC E) (by unfold maxLen;omega) (by omega) (by first | (simp;omega) | omega) ?_;exact HWA.out _;intro a3 c3 w3 ho3 hg3 hl3;obtain ⟨k3,z3⟩:=zeq HQ.out (HWA.out _) hg3.out hbb)
   all_goals
    go_wp2_with fail
    go_ret
    obtain ⟨r1,r2,r3⟩:=zkk HQ.out hEs hQs.out hN.out (HWA.out _) ho3.out hg3.out hl3.out hgb hbb (by omega)
    exact ⟨a3,c3,xs ++ [E],r1,by first | (simp;done) | (simp;omega),by first | (simp;done) | (simp;omega),zbk (by simp),r2,by simpa using r3,⟨[E],rfl,Tree.leaf hEl⟩,fun _=>by simp⟩
  ·have hk0':(0:Int)<(kn:Int):=by omega
   obtain ⟨k,hk⟩:∃ k,k=u / 5 % kn:=⟨_,rfl⟩
   have hkn:k<kn:=by rw [hk];exact Nat.mod_lt _ (by omega)
   have hki:(u:Int) / 5 % (kn:Int)=(k:Int):=by rw [hk];first | (norm_cast;done) | (simp;done) | (push_cast;rfl)
   have hkI:(k:Int)<(kn:Int):=by omega
   have hk00:(0:Int)≤(k:Int):=by omega
   obtain ⟨kb,ko,sw,rfl,hgk,hkb,hkbase,hss,hcs⟩:=HK1.out.2 k hkn
   have hkb1:kb<w1.heap.size:=by omega
   clear hk
   go_wp2_with (first | (refine zal (by rfl) 240 (.tmp 10) (.tmp 74) (by rfl) w1.heap.size (zba ⟨1,0,sw,(0,0,⟨#[]⟩),0,0⟩) (by rfl) (by rfl) _ 240 (heap_alloc_new _ _) (by rfl) zl8 (zbC _) ?_;intro wt hE ht) | fail)
   obtain ⟨E,hEE⟩:∃ E:Ex,E=⟨1,0,sw,(0,0,⟨#[]⟩),0,0⟩:=⟨_,rfl⟩
   have hEs:ExSm E:=by rw [hEE];exact ⟨hss.1,zdY,Int.le_refl 0,(by decide:(0:Int)<256)⟩
   have hEl:Leaf K E:=by rw [hEE];exact .inr ⟨sw,hss.2.2,rfl⟩
   rw [← hEE] at hE
   have HQ:=hidR ((HQ1.out.bel (HA.out _)).turned ht.out (by omega) (fun e=>by have:=HOL.out _ e;omega))
   have hQs:=hidR (Qs.of (b:=b) (o:=(Value.slice a xs.length c).ownBlock) ((hR1.out.bel (HA.out _)).turned ht.out (by omega) hlt))
   have hN:=hidR (zcD.refl w.heap.size (Value.slice a xs.length c).ownBlock)
   have hsT:base≤wt.heap.size:=by have:=hQs.out.rest.size;omega
   clear HQ1 hR1 HR1 HOL HA ht hEE c3 hki hcs HK1
   have hbT:b<wt.heap.size:=zab HQ.out.1
   have cq3:wt.cell? ⟨b,3,none⟩=some (.slice a xs.length c):=by simp [World.cell?,HQ.out.1]
   obtain ⟨t0,t1,t2,t3,t4,t5,t6,t7⟩:=box8 hE.out
   have HOW:=hidR (fun W (h:Below wt.heap.size wt W)=>zae HQ.out.2.1 (fun k hk=>h.block k (HQ.out.2.1.lt k hk).2))
   have HWA:=hidR (fun o=>(Below.refl wt.heap.size wt).drew.alloc (Nat.le_refl _) o:∀ o,Below wt.heap.size wt (wt.drew.alloc o))
   go_wp2_with fail
   go_region_law (refine zao (by rfl) (.tmp 79) (.tmp 81) 32 (by rfl) base 240 _ 8 80 Tryz.underlying32 zek (by rfl) (by omega) _ xs.length _ (by rfl) (HOW.out _ ?_) (some ⟨_,0,none⟩) 1 1 (by rfl) (zba E) (by rfl) (fun e=>by cases e) (zav _ _ _ _ (by simp)) (zbC E) (by unfold maxLen;omega) (by omega) (by first | (simp;omega) | omega) ?_;exact HWA.out _;intro a3 c3 w3 ho3 hg3 hl3;obtain ⟨k3,z3⟩:=zeq HQ.out (HWA.out _) hg3.out hbb)
   all_goals
    go_wp2_with fail
    go_ret
    obtain ⟨r1,r2,r3⟩:=zkk HQ.out hEs hQs.out hN.out (HWA.out _) ho3.out hg3.out hl3.out hgb hbb (by omega)
    exact ⟨a3,c3,xs ++ [E],r1,by first | (simp;done) | (simp;omega),by first | (simp;done) | (simp;omega),zbk (by simp),r2,by simpa using r3,⟨[E],rfl,Tree.leaf hEl⟩,fun _=>by simp⟩
 have h5':¬ (u:Int) % 5=0:=by omega
 by_cases h52:u % 5≤2
 ·have h52':¬ (2:Int)<(u:Int) % 5:=by omega
  go_wp2_with fail
  refine (zck g _ (HR1.out _)).mono ?_
  rintro e w2 ⟨v,hv,rfl,hr2⟩
  have hR2:=hidR ((hR1.out.bel (HA.out _)).trans hr2)
  have HEB:=hidR (zaC hr2 (heap_alloc_new _ _) (by omega))
  have HQ2:=hidR ((HQ1.out.bel (HA.out _)).rs hr2 (by omega) (by omega))
  clear hr2
  unfold vV
  go_wp2_with (first | (refine zbG (by rfl) 109 (.tmp 18) (.tmp 17) (by rfl) w1.heap.size 3 (V.cells v) (by rfl) (by rfl) _ 240 HEB.out (by simp [V.cells]) zd5 (V.cells_one _) (zba ⟨0,0,⟨#[]⟩,v,0,0⟩).toArray (by rfl) ?_;intro wt hE ht) | fail)
  obtain ⟨E,hEE⟩:∃ E:Ex,E=⟨0,0,⟨#[]⟩,v,0,0⟩:=⟨_,rfl⟩
  have hEs:ExSm E:=by rw [hEE];exact ⟨Nat.zero_le 20,hv,Int.le_refl 0,(by decide:(0:Int)<256)⟩
  have hEl:Leaf K E:=by rw [hEE];exact .inl ⟨v,hv.2.2.2.2,rfl⟩
  rw [← hEE] at hE
  have HQ:=hidR (HQ2.out.turned ht.out (by omega) (fun e=>by have:=HOL.out _ e;omega))
  have hQs:=hidR (Qs.of (b:=b) (o:=(Value.slice a xs.length c).ownBlock) (hR2.out.turned ht.out (by omega) hlt))
  have hN:=hidR (zcD.refl w.heap.size (Value.slice a xs.length c).ownBlock)
  have hsT:base≤wt.heap.size:=by have:=hQs.out.rest.size;omega
  clear HQ2 HQ1 hR1 HR1 hR2 HEB HOL HA ht hEE hv c3
  have hbT:b<wt.heap.size:=zab HQ.out.1
  have cq3:wt.cell? ⟨b,3,none⟩=some (.slice a xs.length c):=by simp [World.cell?,HQ.out.1]
  obtain ⟨t0,t1,t2,t3,t4,t5,t6,t7⟩:=box8 hE.out
  have HOW:=hidR (fun W (h:Below wt.heap.size wt W)=>zae HQ.out.2.1 (fun k hk=>h.block k (HQ.out.2.1.lt k hk).2))
  have HWA:=hidR (fun o=>(Below.refl wt.heap.size wt).drew.alloc (Nat.le_refl _) o:∀ o,Below wt.heap.size wt (wt.drew.alloc o))
  go_wp2_with fail
  go_region_law (refine zao (by rfl) (.tmp 79) (.tmp 81) 32 (by rfl) base 240 _ 8 80 Tryz.underlying32 zek (by rfl) (by omega) _ xs.length _ (by rfl) (HOW.out _ ?_) (some ⟨_,0,none⟩) 1 1 (by rfl) (zba E) (by rfl) (fun e=>by cases e) (zav _ _ _ _ (by simp)) (zbC E) (by unfold maxLen;omega) (by omega) (by first | (simp;omega) | omega) ?_;exact HWA.out _;intro a3 c3 w3 ho3 hg3 hl3;obtain ⟨k3,z3⟩:=zeq HQ.out (HWA.out _) hg3.out hbb)
  all_goals
   go_wp2_with fail
   go_ret
   obtain ⟨r1,r2,r3⟩:=zkk HQ.out hEs hQs.out hN.out (HWA.out _) ho3.out hg3.out hl3.out hgb hbb (by omega)
   exact ⟨a3,c3,xs ++ [E],r1,by first | (simp;done) | (simp;omega),by first | (simp;done) | (simp;omega),zbk (by simp),r2,by simpa using r3,⟨[E],rfl,Tree.leaf hEl⟩,fun _=>by simp⟩
 have h52':(2:Int)<(u:Int) % 5:=by omega
 by_cases hd0:d=0
 ·subst hd0
  go_wp2_with fail
  refine (zck g _ (HR1.out _)).mono ?_
  rintro e w2 ⟨v,hv,rfl,hr2⟩
  have hR2:=hidR ((hR1.out.bel (HA.out _)).trans hr2)
  have HEB:=hidR (zaC hr2 (heap_alloc_new _ _) (by omega))
  have HQ2:=hidR ((HQ1.out.bel (HA.out _)).rs hr2 (by omega) (by omega))
  clear hr2
  unfold vV
  go_wp2_with (first | (refine zbG (by rfl) 109 (.tmp 18) (.tmp 17) (by rfl) w1.heap.size 3 (V.cells v) (by rfl) (by rfl) _ 240 HEB.out (by simp [V.cells]) zd5 (V.cells_one _) (zba ⟨0,0,⟨#[]⟩,v,0,0⟩).toArray (by rfl) ?_;intro wt hE ht) | fail)
  obtain ⟨E,hEE⟩:∃ E:Ex,E=⟨0,0,⟨#[]⟩,v,0,0⟩:=⟨_,rfl⟩
  have hEs:ExSm E:=by rw [hEE];exact ⟨Nat.zero_le 20,hv,Int.le_refl 0,(by decide:(0:Int)<256)⟩
  have hEl:Leaf K E:=by rw [hEE];exact .inl ⟨v,hv.2.2.2.2,rfl⟩
  rw [← hEE] at hE
  have HQ:=hidR (HQ2.out.turned ht.out (by omega) (fun e=>by have:=HOL.out _ e;omega))
  have hQs:=hidR (Qs.of (b:=b) (o:=(Value.slice a xs.length c).ownBlock) (hR2.out.turned ht.out (by omega) hlt))
  have hN:=hidR (zcD.refl w.heap.size (Value.slice a xs.length c).ownBlock)
  have hsT:base≤wt.heap.size:=by have:=hQs.out.rest.size;omega
  clear HQ2 HQ1 hR1 HR1 hR2 HEB HOL HA ht hEE hv c3
  have hbT:b<wt.heap.size:=zab HQ.out.1
  have cq3:wt.cell? ⟨b,3,none⟩=some (.slice a xs.length c):=by simp [World.cell?,HQ.out.1]
  obtain ⟨t0,t1,t2,t3,t4,t5,t6,t7⟩:=box8 hE.out
  have HOW:=hidR (fun W (h:Below wt.heap.size wt W)=>zae HQ.out.2.1 (fun k hk=>h.block k (HQ.out.2.1.lt k hk).2))
  have HWA:=hidR (fun o=>(Below.refl wt.heap.size wt).drew.alloc (Nat.le_refl _) o:∀ o,Below wt.heap.size wt (wt.drew.alloc o))
  go_wp2_with fail
  go_region_law (refine zao (by rfl) (.tmp 79) (.tmp 81) 32 (by rfl) base 240 _ 8 80 Tryz.underlying32 zek (by rfl) (by omega) _ xs.length _ (by rfl) (HOW.out _ ?_) (some ⟨_,0,none⟩) 1 1 (by rfl) (zba E) (by rfl) (fun e=>by cases e) (zav _ _ _ _ (by simp)) (zbC E) (by unfold maxLen;omega) (by omega) (by first | (simp;omega) | omega) ?_;exact HWA.out _;intro a3 c3 w3 ho3 hg3 hl3;obtain ⟨k3,z3⟩:=zeq HQ.out (HWA.out _) hg3.out hbb)
  all_goals
   go_wp2_with fail
   go_ret
   obtain ⟨r1,r2,r3⟩:=zkk HQ.out hEs hQs.out hN.out (HWA.out _) ho3.out hg3.out hl3.out hgb hbb (by omega)
   exact ⟨a3,c3,xs ++ [E],r1,by first | (simp;done) | (simp;omega),by first | (simp;done) | (simp;omega),zbk (by simp),r2,by simpa using r3,⟨[E],rfl,Tree.leaf hEl⟩,fun _=>by simp⟩
 have hd0':(0:Int)<(d:Int):=by omega
 by_cases hl52:xs.length<52
 ·have hl52':(xs.length:Int)<52:=by omega
  obtain ⟨d',rfl⟩:∃ d',d=d'+1:=⟨d - 1,by omega⟩
  have hfD:fD (d'+1)=2 * fD d'+1:=rfl
  have hdd:((d'+1:Nat):Int) - 1=(d':Int):=by omega
  have hsA:∀ o,base≤(w1.alloc o).heap.size:=fun o=>by simp;omega
  have HKA:=hidR (fun o=>HK1.out.keep (w':=w1.alloc o) (fun k _ hl _ _=>(HA.out o).block k hl))
  go_wp2_with fail
  try rw [hdd]
  refine (HIH.out d' rfl a c xs _ (HR1.out _) (HQ1.out.bel (HA.out _)) (HKA.out _) (hsA _) (by omega)).mono ?_
  rintro e w2 ⟨a2,c2,xs2,hQ2,hl1,hl2,rfl,hq2,hn2,ht2,_⟩
  have HQ2:=hidR hQ2
  have hsz2:base≤w2.heap.size:=by have:=hq2.rest.size;have:=hsA (.cells #[] 0);simp at *;omega
  have hebn:(Value.slice a xs.length c).ownBlock≠some w1.heap.size:=fun e=>by have:=HOL.out _ e;omega
  have HE2:=hidR ((hq2.block w1.heap.size (by simp) (by omega) (by omega) hebn).trans (heap_alloc_new _ _))
  have HK2:=hidR ((HKA.out _).qs hq2 (fun k hk=>(HQ1.out.2.1.lt k hk).1))
  have hs2:w1.heap.size<w2.heap.size:=zab HE2.out
  have hb2:b<w2.heap.size:=by omega
  have hQs2:=hidR ((Qs.of (b:=b) (o:=(Value.slice a xs.length c).ownBlock) (hR1.out.bel (HA.out _))).trans hq2 (zcD.refl _ _))
  have HN2:=hidR (hn2.mono (N:=w.heap.size) (by simp;omega))
  have HN2':=hidR (hn2.mono (N:=w1.heap.size+1) (by simp))
  have HR2:=hidR hq2.rdr
  clear hq2 hn2 hQ2 HQ1 HK1 HKA HR1 hR1 c3 HA
  go_wp2_with fail
  try rw [hdd]
  refine (HIH.out d' rfl a2 c2 xs2 w2 HR2.out HQ2.out HK2.out hsz2 (by omega)).mono ?_
  rintro e w4 ⟨a4,c4,xs4,hQ4,hl3,hl4,rfl,hq4,hn4,ht4,_⟩
  have HQ4:=hidR hQ4
  have heb4:(Value.slice a2 xs2.length c2).ownBlock≠some w1.heap.size:=fun e=>by
   rcases HN2'.out with h | h
   ·exact hebn (by rw [← h,e])
   ·have:=h _ e;omega
  have HE4:=hidR ((hq4.block w1.heap.size hs2 (by omega) (by omega) heb4).trans HE2.out)
  have hs4:w1.heap.size<w4.heap.size:=zab HE4.out
  have hQs4:=hidR (hQs2.out.trans hq4 HN2.out)
  have HN4:=hidR (HN2.out.trans hn4 (by omega))
  have HN4':=hidR (HN2'.out.trans hn4 (by omega))
  have HAR:=hidR (fun o=>(Below.refl _ _).alloc (Nat.le_refl _) o:∀ o,Below w4.heap.size w4 (w4.alloc o))
  have hb4:b<w4.heap.size:=by omega
  have heb5:(Value.slice a4 xs4.length c4).ownBlock≠some w1.heap.size:=fun e=>by
   rcases HN4'.out with h | h
   ·exact hebn (by rw [← h,e])
   ·have:=h _ e;omega
  clear hq4 hn4 hQ4 HQ2 HK2 HR2 hQs2 HE2 HIH
  have hu5:u / 5 % 5=0∨u / 5 % 5=1∨u / 5 % 5=2∨u / 5 % 5=3∨u / 5 % 5=4:=by omega
  go_wp2_with fail
  refine (zkd _).mono ?_
  rintro e w5 ⟨rfl,rfl⟩
  rcases hu5 with hu5 | hu5 | hu5 | hu5 | hu5
  all_goals
   go_wp2_with (first | (refine zal (by rfl) 240 (.tmp 10) (.tmp 56) (by rfl) w1.heap.size (zba ⟨2,_,⟨#[]⟩,(0,0,⟨#[]⟩),(xs2.length:Int) - 1,(xs4.length:Int) - 1⟩) (by rfl) (by rfl) _ 240 (((HAR.out _).block _ hs4).trans HE4.out) (by rfl) zl8 (zbC _) ?_;intro wt hE' ht;obtain ⟨E,hEs,hEo,hE⟩:=absE hE' (by first | rfl | decide) (by first | decide | (dsimp only;decide) | (simp;done)) (by first | decide | (dsimp only;decide) | (simp;done));clear hE') | fail)
   have HQ:=hidR ((HQ4.out.bel (HAR.out _)).turned ht.out (by omega) heb5)
   have hQs:=hidR ((hQs4.out.bel (HAR.out _)).turned ht.out (by omega) hlt)
   have hN:=hidR HN4.out
   have hsT:base≤wt.heap.size:=by have:=hQs.out.rest.size;omega
   clear HQ4 hQs4 HN4 HN4' HN2 HN2' HE4 HAR ht HOL hebn heb4 heb5
   have hbT:b<wt.heap.size:=zab HQ.out.1
   have cq3:wt.cell? ⟨b,3,none⟩=some (.slice a4 xs4.length c4):=by simp [World.cell?,HQ.out.1]
   obtain ⟨t0,t1,t2,t3,t4,t5,t6,t7⟩:=box8 hE.out
   have HOW:=hidR (fun W (h:Below wt.heap.size wt W)=>zae HQ.out.2.1 (fun k hk=>h.block k (HQ.out.2.1.lt k hk).2))
   have HWA:=hidR (fun o=>(Below.refl wt.heap.size wt).drew.alloc (Nat.le_refl _) o:∀ o,Below wt.heap.size wt (wt.drew.alloc o))
   go_wp2_with fail
   go_region_law (refine zao (by rfl) (.tmp 79) (.tmp 81) 32 (by rfl) base 240 _ 8 80 Tryz.underlying32 zek (by rfl) (by omega) _ xs4.length _ (by rfl) (HOW.out _ ?_) (some ⟨_,0,none⟩) 1 1 (by rfl) (zba E) (by rfl) (fun e=>by cases e) (zav _ _ _ _ (by simp)) (zbC E) (by unfold maxLen;omega) (by omega) (by first | (simp;omega) | omega) ?_;exact HWA.out _;intro a3 c3 w3 ho3 hg3 hl3;obtain ⟨k3,z3⟩:=zeq HQ.out (HWA.out _) hg3.out hbb)
   all_goals
    go_wp2_with fail
    go_ret
    obtain ⟨r1,r2,r3⟩:=zkk HQ.out hEs hQs.out hN.out (HWA.out _) ho3.out hg3.out hl3.out hgb hbb (by omega)
    exact ⟨a3,c3,xs4 ++ [E],r1,by first | (simp;done) | (simp;omega),by first | (simp;done) | (simp;omega),zbk (by simp),r2,by simpa using r3,zom ht2 ht4 hEo,fun _=>by omega⟩
 ·have hl52':¬ (xs.length:Int)<52:=by omega
  go_wp2_with fail
  refine (zck g _ (HR1.out _)).mono ?_
  rintro e w2 ⟨v,hv,rfl,hr2⟩
  have hR2:=hidR ((hR1.out.bel (HA.out _)).trans hr2)
  have HEB:=hidR (zaC hr2 (heap_alloc_new _ _) (by omega))
  have HQ2:=hidR ((HQ1.out.bel (HA.out _)).rs hr2 (by omega) (by omega))
  clear hr2
  unfold vV
  go_wp2_with (first | (refine zbG (by rfl) 109 (.tmp 18) (.tmp 17) (by rfl) w1.heap.size 3 (V.cells v) (by rfl) (by rfl) _ 240 HEB.out (by simp [V.cells]) zd5 (V.cells_one _) (zba ⟨0,0,⟨#[]⟩,v,0,0⟩).toArray (by rfl) ?_;intro wt hE ht) | fail)
  obtain ⟨E,hEE⟩:∃ E:Ex,E=⟨0,0,⟨#[]⟩,v,0,0⟩:=⟨_,rfl⟩
  have hEs:ExSm E:=by rw [hEE];exact ⟨Nat.zero_le 20,hv,Int.le_refl 0,(by decide:(0:Int)<256)⟩
  have hEl:Leaf K E:=by rw [hEE];exact .inl ⟨v,hv.2.2.2.2,rfl⟩
  rw [← hEE] at hE
  have HQ:=hidR (HQ2.out.turned ht.out (by omega) (fun e=>by have:=HOL.out _ e;omega))
  have hQs:=hidR (Qs.of (b:=b) (o:=(Value.slice a xs.length c).ownBlock) (hR2.out.turned ht.out (by omega) hlt))
  have hN:=hidR (zcD.refl w.heap.size (Value.slice a xs.length c).ownBlock)
  have hsT:base≤wt.heap.size:=by have:=hQs.out.rest.size;omega
  clear HQ2 HQ1 hR1 HR1 hR2 HEB HOL HA ht hEE hv c3
  have hbT:b<wt.heap.size:=zab HQ.out.1
  have cq3:wt.cell? ⟨b,3,none⟩=some (.slice a xs.length c):=by simp [World.cell?,HQ.out.1]
  obtain ⟨t0,t1,t2,t3,t4,t5,t6,t7⟩:=box8 hE.out
  have HOW:=hidR (fun W (h:Below wt.heap.size wt W)=>zae HQ.out.2.1 (fun k hk=>h.block k (HQ.out.2.1.lt k hk).2))
  have HWA:=hidR (fun o=>(Below.refl wt.heap.size wt).drew.alloc (Nat.le_refl _) o:∀ o,Below wt.heap.size wt (wt.drew.alloc o))
  go_wp2_with fail
  go_region_law (refine zao (by rfl) (.tmp 79) (.tmp 81) 32 (by rfl) base 240 _ 8 80 Tryz.underlying32 zek (by rfl) (by omega) _ xs.length _ (by rfl) (HOW.out _ ?_) (some ⟨_,0,none⟩) 1 1 (by rfl) (zba E) (by rfl) (fun e=>by cases e) (zav _ _ _ _ (by simp)) (zbC E) (by unfold maxLen;omega) (by omega) (by first | (simp;omega) | omega) ?_;exact HWA.out _;intro a3 c3 w3 ho3 hg3 hl3;obtain ⟨k3,z3⟩:=zeq HQ.out (HWA.out _) hg3.out hbb)
  all_goals
   go_wp2_with fail
   go_ret
   obtain ⟨r1,r2,r3⟩:=zkk HQ.out hEs hQs.out hN.out (HWA.out _) ho3.out hg3.out hl3.out hgb hbb (by omega)
   exact ⟨a3,c3,xs ++ [E],r1,by first | (simp;done) | (simp;omega),by first | (simp;done) | (simp;omega),zbk (by simp),r2,by simpa using r3,⟨[E],rfl,Tree.leaf hEl⟩,fun _=>by simp⟩
end Go.Proofs.YtmmdlgjmplddiaaGreat
namespace Go.Proofs.YtmmdlgjmplddiaaGreat
open Go.RowKit
attribute [local go_sem ↓] Go.wp_at_zero Go.wp_at_succ
theorem zf6 (K:List ByteArray) (g b base:Nat) (x0 x1 x2 x4:Value) (ka:Option Addr) (kn kc:Nat) (hgb:g<b) (hbb:b<base):∀ (d:Nat),d≤8→∀ (a:Option Addr) (c:Nat) (xs:List Ex) (w:World),Rdr w g→QB w b base x0 x1 x2 x4 a c xs→zfE K w g b base ka kn→base≤w.heap.size→xs.length+fD d≤100000 →
  Calls Tryz.prog 148 #[.pointer (some ⟨g,0,none⟩),.pointer (some ⟨b,0,none⟩),.slice ka kn kc,.int .i64 (d:Int)] w (QPost K g b base x0 x1 x2 x4 a c xs d w):=by
 intro d
 induction d with
 | zero=>exact fun hd a c xs w h hq hk hbase hlen=>zij K g b base x0 x1 x2 x4 ka kn kc hgb hbb 0 a c xs w hd h hq hk hbase hlen (fun d' e=>by omega)
 | succ d ih=>exact fun hd a c xs w h hq hk hbase hlen=>zij K g b base x0 x1 x2 x4 ka kn kc hgb hbb (d+1) a c xs w hd h hq hk hbase hlen (fun d' e=>by obtain rfl:d=d':=(by omega);exact ih (by omega))
theorem zmC (c:Int) (w:World) (b:Nat) (h:w.cell? ⟨b,0,none⟩=some (.int .u8 c)):(convert 22 9 (.slice (some ⟨b,0,none⟩) 1 1)).run Tryz.prog w=.ok (.string (strOfNums [c])) w:=
 run_convert_bytes_arg (P:=Tryz.prog) _ 22 5 Tryz.underlying22 Tryz.underlying5 b 0 1 1 [c] rfl (fun i hi=>by
  obtain rfl:i=0:=by omega
  simpa using h) 9 Tryz.underlying9
def digB (k:Nat):ByteArray:=⟨#[UInt8.ofNat (48+k)]⟩
theorem zoq (k:Nat) (hk:k<10):strOfNums [48+((k:Int) % 10)] ++ (⟨#[]⟩:ByteArray)=digB k:=by
 have:∀ k:Fin 10,strOfNums [48+(((k.val:Nat):Int) % 10)] ++ (⟨#[]⟩:ByteArray)=digB k.val:=by decide
 exact this ⟨k,hk⟩
set_option maxHeartbeats 1600000 in
theorem zkX (k:Nat) (w:World) (hk:k<10):Calls Tryz.prog 119 #[.int .i64 (k:Int)] w fun e w'=>e=.returned (.string (digB k))∧Below w.heap.size w w':=by
 have hk0:¬ (k:Int)<0:=by omega
 have HC:=hidR zmC
 go_enter Tryz.func119,Tryz.ntmps119
 go_wp2
 go_loopw [0,4,5] (fun nv sv fv wr=>(nv=.int .i64 (k:Int)∧sv=.string ⟨#[]⟩∧fv=.bool true∧wr=w)∨(nv=.int .i64 0∧sv=.string (digB k)∧fv=.bool false∧Below w.heap.size w wr)) (fun _ _ fv _=>match fv with | .bool true=>1 | _=>0)
 case atStart=>exact .inl ⟨rfl,rfl,rfl,rfl⟩
 case round=>
  rcases hrel with ⟨rfl,rfl,rfl,rfl⟩ | ⟨rfl,rfl,rfl,hb⟩
  ·have hcv:=HC.out
   go_wp2
   refine ⟨.inr ⟨by rw [show (k:Int) / 10=0 by omega],?_,rfl,(Below.refl _ _).alloc (Nat.le_refl _) _⟩,by simp⟩
   exact congrArg Value.string (zoq k hk)
  ·go_wp2
   go_ret
   exact ⟨rfl,hb⟩
theorem zmQ:(Tryz.prog.info? 3).map (fun i=>(i.zero,i.size,i.bytes))=some (some (.int .i64 0),1,8):=by kernel_rfl
def argN:List Int:=[1,2,1,2,3,0]
theorem zoI (k:Nat) (hk:k<6):∃ n:Nat,n≤3∧argN[k]?=some (n:Int):=by
 have:k=0∨k=1∨k=2∨k=3∨k=4∨k=5:=by omega
 rcases this with rfl | rfl | rfl | rfl | rfl | rfl
 ·exact ⟨1,by omega,rfl⟩
 ·exact ⟨2,by omega,rfl⟩
 ·exact ⟨1,by omega,rfl⟩
 ·exact ⟨2,by omega,rfl⟩
 ·exact ⟨3,by omega,rfl⟩
 ·exact ⟨0,by omega,rfl⟩
set_option maxRecDepth 100000 in
set_option maxHeartbeats 3200000 in
theorem zdD (K:List ByteArray) (m:Nat) (g b base:Nat) (x0 x1 x2 x4:Value) (ka:Option Addr) (kn kc:Nat) (hgb:g<b) (hbb:b<base) (a:Option Addr) (c:Nat) (xs:List Ex) (w:World) (h:Rdr w g) (hq:QB w b base x0 x1 x2 x4 a c xs) (hk:zfE K w g b base ka kn) (hbase:base≤w.heap.size) (hm1:xs.length≤7 * m) (hm2:xs.length≤50+m) (hm:m≤100) :
  Calls Tryz.prog 122 #[.pointer (some ⟨g,0,none⟩),.pointer (some ⟨b,0,none⟩),.slice ka kn kc] w fun e w'=>∃ ao co zs a' c' xs' ys,e=.returned (.slice ao zs.length co)∧w'.ownsRow w.heap.size 3 1 (.slice ao zs.length co) zs.length ((zs:List Int).map (Value.int .i64))∧QB w' b base x0 x1 x2 x4 a' c' xs'∧(xs'=xs ++ ys∧Trees K xs.length ys zs∧zs.length≤3∧xs'.length≤7 * (m+zs.length)∧xs'.length≤50+(m+zs.length))∧Qs g b (Value.slice a xs.length c).ownBlock w w'∧zcD w.heap.size (Value.slice a xs.length c).ownBlock (Value.slice a' xs'.length c').ownBlock:=by
 have H:=hidR h
 have HQ:=hidR hq
 have HK:=hidR hk
 have hlt:=h.lt
 have hbl:b<w.heap.size:=zab hq.1
 clear h hq hk
 have HA:=hidR (fun o=>(Below.refl _ _).alloc (Nat.le_refl _) o:∀ o,Below w.heap.size w (w.alloc o))
 have HR:=hidR (fun o=>H.out.bel (HA.out o))
 go_enter Tryz.func122,Tryz.ntmps122
 go_wp2_with fail
 refine (zbb g _ (HR.out _)).mono ?_
 rintro e w1 ⟨u,hu,rfl,hr⟩
 have HT:=hidR (zaC hr (heap_alloc_new _ _) (by omega))
 have hs1:w.heap.size<w1.heap.size:=zab HT.out
 obtain ⟨k,hkd⟩:∃ k,k=u % 6:=⟨_,rfl⟩
 have hk6:k<6:=by omega
 have hki:(u:Int) % 6=(k:Int):=by omega
 have hkI:(k:Int)<6:=by omega
 have hk0:(0:Int)≤(k:Int):=by omega
 obtain ⟨n0,hn3,hat⟩:=zoI k hk6
 have hcell:w1.cell? ⟨w.heap.size,k,none⟩=some (.int .i64 (n0:Int)):=by
  have hb:=HT.out
  have:k=0∨k=1∨k=2∨k=3∨k=4∨k=5:=by omega
  rcases this with rfl | rfl | rfl | rfl | rfl | rfl <;> simp [argN] at hat <;> simp [World.cell?,hb,← hat]
 have HQ1:=hidR ((HQ.out.bel (HA.out _)).rs hr (by omega) (by omega))
 have hQs1:=hidR (Qs.of (b:=b) (o:=(Value.slice a xs.length c).ownBlock) ((Rs.of H.out (HA.out _)).trans hr))
 clear hr hkd hat HT HA HR H
 go_wp2_with fail
 clear hcell hki
 go_loopw [7,8] (fun ov nv wr=>∃ (j:Nat) (ao:Option Addr) (co:Nat) (zs:List Int) (a':Option Addr) (c':Nat) (xs' ys:List Ex),nv=.int .i64 (j:Int)∧ov=.slice ao zs.length co∧zs.length+j=n0∧wr.ownsRow w.heap.size 3 1 (.slice ao zs.length co) zs.length (zs.map (Value.int .i64))∧QB wr b base x0 x1 x2 x4 a' c' xs'∧(xs'=xs ++ ys∧Trees K xs.length ys zs∧xs'.length≤7 * (m+zs.length)∧xs'.length≤50+(m+zs.length))∧Qs g b (Value.slice a xs.length c).ownBlock w wr∧zcD w.heap.size (Value.slice a xs.length c).ownBlock (Value.slice a' xs'.length c').ownBlock) (fun _ nv _=>(intOf nv).toNat)
 case atStart=>exact ⟨n0,none,0,[],a,c,xs,[],rfl,rfl,by simp,World.ownsRow_nil _ _ _ _,HQ1.out,⟨by simp,rfl,by simpa using hm1,by simpa using hm2⟩,hQs1.out,zcD.refl _ _⟩
 case round=>
  obtain ⟨j,ao,co,zs,a',c',xs',ys,rfl,rfl,hj,hown,hQ,⟨hxe,hxt,hx7,hx5⟩,hQs,hN⟩:=hrel
  have HXE:=hidR (And.intro hxe hxt)
  clear hxe hxt
  by_cases hj0:j=0
  ·subst hj0
   go_wp2_with fail
   go_ret
   exact ⟨ao,co,zs,a',c',xs',ys,rfl,hown,hQ,⟨HXE.out.1,HXE.out.2,by omega,hx7,hx5⟩,hQs,hN⟩
  ·have hj1:(0:Int)<(j:Int):=by omega
   have hsz:=hQs.rest.size
   have hf2:fD 2=7:=rfl
   have HC:=hidR (zf6 K g b base x0 x1 x2 x4 ka kn kc hgb hbb 2 (by omega) a' c' xs' wr hQs.rdr hQ (HK.out.qs hQs (fun k hk=>(HQ.out.2.1.lt k hk).1)) (by omega) (by rw [hf2];omega))
   have HO:=hidR hown
   have HQr:=hidR hQ
   have HQs2:=hidR hQs
   have HN2:=hidR hN
   clear hown hQ hQs hN HQ1 hQs1
   go_wp2_with fail
   refine HC.out.mono ?_
   rintro e w2 ⟨a2,c2,xs2,hQ2,hl1,hl2,rfl,hq2,hn2,ht2,hb2⟩
   rw [hf2] at hl2
   have HT2:=hidR ht2
   clear ht2
   have HQ3:=hidR hQ2
   have HO2:=hidR (zmh (t:=240) HO.out hq2 (by omega) (by omega) (fun k hk=>zai HQr.out.2.1 hk) (by decide))
   have HQs3:=hidR (HQs2.out.trans hq2 HN2.out)
   have HN3:=hidR (HN2.out.trans hn2 (by omega))
   have hs2:=hq2.rest.size
   have HA2:=hidR (fun o=>(Below.refl _ _).alloc (Nat.le_refl _) o:∀ o,Below w2.heap.size w2 (w2.alloc o))
   have HO3:=hidR (fun o=>zae HO2.out (fun k hk=>(HA2.out o).block k (HO2.out.lt k hk).2))
   clear hQ2 hq2 hn2 HC HO HQr HQs2 HN2
   go_wp2_with (first | (at_builtin;refine zad (by rfl) (.tmp 19) (.tmp 24) 39 (by rfl) w.heap.size 3 _ 1 8 Tryz.underlying39 zmQ (by rfl) (by omega) _ zs.length _ (by rfl) (HO3.out _) (some ⟨_,0,none⟩) 1 1 (by rfl) [.int .i64 ((xs2.length:Int) - 1)] (by rfl) (fun e=>by cases e) (zav _ _ _ _ (by simp)) (by intro u hu;simp at hu;subst hu;rfl) (by unfold maxLen;omega) (by omega) (by simp;omega) ?_;intro a3 c3 w3 ho3 hg3 hl3) | fail)
   go_roundw
   case rel=>
    obtain ⟨TY,hte,htt⟩:=HT2.out
    obtain ⟨hxe,hxt⟩:=HXE.out
    refine ⟨j - 1,a3,c3,zs ++ [(xs2.length:Int) - 1],a2,c2,xs2,ys ++ TY,?_,by simp,by simp;omega,by simpa using ho3.out,(HQ3.out.bel (HA2.out _)).grown (t:=3) hg3.out (fun k hk=>zai (HO3.out _) hk) (by decide) (by decide),⟨by rw [hte,hxe,List.append_assoc],?_,by simp;omega,by simp;omega⟩,(HQs3.out.bel (HA2.out _)).grown hg3.out (fun k hk=>(HO2.out.lt k hk).1) hlt,HN3.out⟩
    ·rw [show ((j - 1:Nat):Int)=(j:Int) - 1 by omega]
    ·have:=Trees.snoc hxt (B:=TY) (by rw [hxe] at htt;simpa using htt)
     have e:xs2.length=xs.length+ys.length+TY.length:=by rw [hte,hxe];simp [Nat.add_assoc]
     rw [e]
     exact this
   case measure=>(simp [intOf];omega)
end Go.Proofs.YtmmdlgjmplddiaaGreat
