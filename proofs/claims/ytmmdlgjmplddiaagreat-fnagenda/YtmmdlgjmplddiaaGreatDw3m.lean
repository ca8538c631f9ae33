/-
  OUR OWN TEXT. The model's draws: a term.
-/
import Derived.Test.YtmmdlgjmplddiaaGreatKay
import Derived.Test.YtmmdlgjmplddiaaGreatKaj
namespace Go.Proofs.YtmmdlgjmplddiaaGreat
open Go.RowKit
attribute [local go_sem ↓] Go.wp_at_zero Go.wp_at_succ
def GK (K:List ByteArray) (s:ByteArray):Prop:=s.size≤20∧gSym s.data.toList=true∧s∈K
def zeK (K:List ByteArray) (w:World) (g:Nat) (a:Option Addr) (n:Nat):Prop:=n≤1048576∧∀ j,j<n→∃ (b o:Nat) (s:ByteArray),a=some ⟨b,o,none⟩∧g<b∧GK K s∧w.cell? ⟨b,o+j,none⟩=some (.string s)
theorem zeK.rs {K:List ByteArray}{w w':World}{g:Nat}{a:Option Addr}{n:Nat} (h:zeK K w g a n) (hr:Rs g w w'):zeK K w' g a n:=by
 refine ⟨h.1,fun j hj=>?_⟩
 obtain ⟨b,o,s,h1,h2,h3,h4⟩:=h.2 j hj
 exact ⟨b,o,s,h1,h2,h3,zg1 hr h4 (by omega)⟩
theorem zeK.bel {K:List ByteArray}{w w':World}{g:Nat}{a:Option Addr}{n:Nat} (h:zeK K w g a n) (hb:Below w.heap.size w w'):zeK K w' g a n:=by
 refine ⟨h.1,fun j hj=>?_⟩
 obtain ⟨b,o,s,h1,h2,h3,h4⟩:=h.2 j hj
 exact ⟨b,o,s,h1,h2,h3,zaa hb h4⟩
def za2 (t:Tm):List Value:=[.int .i64 t.kind,.int .i64 t.op,.string t.var,.int .i64 t.val.kind,.int .i64 t.val.num,.string t.val.sym]
def tmV (t:Tm):Value:=.agg (za2 t).toArray
def TmSm (t:Tm):Prop:=t.var.size≤20∧VSm t.val∧gTm t=true
def zgN (K:List ByteArray) (t:Tm):Prop:=TmSm t∧(asks t=true→memB t.var K=true)
theorem zpr (K:List ByteArray):zgN K ⟨0,0,⟨#[]⟩,(0,0,⟨#[]⟩)⟩:=⟨⟨Nat.zero_le 20,zdY,by simp [gTm,zcR,zcC]⟩,fun h=>by simp [asks] at h⟩
theorem znp (K:List ByteArray) {v:V} (hv:VSm v):zgN K ⟨1,0,⟨#[]⟩,v⟩:=⟨⟨Nat.zero_le 20,hv,by simp [gTm,zcR,hv.2.2.2.2]⟩,fun h=>by simp [asks] at h⟩
theorem zpg (K:List ByteArray) {s:ByteArray} (hs:GNm s):zgN K ⟨2,0,s,(0,0,⟨#[]⟩)⟩:=⟨⟨hs.1,zdY,by simp [gTm,hs.2,zcC]⟩,fun h=>by simp [asks] at h⟩
theorem zm3 {K:List ByteArray}{s:ByteArray}{op:Int} (h1:1≤op) (h6:op≤6) (hs:GK K s):zgN K ⟨3,op,s,(0,0,⟨#[]⟩)⟩:=⟨⟨hs.1,zdY,by simp [gTm,zcm,hs.2.1,zcC,h1,h6]⟩,fun _=>List.any_eq_true.2 ⟨s,hs.2.2,by simp⟩⟩
theorem zjJ (K:List ByteArray) {v:V}{op:Int} (h1:1≤op) (h6:op≤6) (hv:VSm v):zgN K ⟨3,op,⟨#[]⟩,v⟩:=⟨⟨Nat.zero_le 20,hv,by simp [gTm,zcm,zcR,hv.2.2.2.2,h1,h6]⟩,fun h=>by simp [asks,zcR] at h⟩
theorem zbN (t:Tm):∀ u∈za2 t,u.oneCell'=true:=by
 intro u hu
 simp [za2] at hu
 rcases hu with rfl | rfl | rfl | rfl | rfl | rfl <;> rfl
theorem zee:(Tryz.prog.info? 115).map (·.size)=some 6:=by kernel_rfl
theorem box6 {w:World}{b:Nat}{ty:TypeId}{t:Tm} (h:w.heap[b]?=some (.cells (za2 t).toArray ty (0,0))):w.cell? ⟨b,0,none⟩=some (.int .i64 t.kind)∧w.cell? ⟨b,1,none⟩=some (.int .i64 t.op)∧w.cell? ⟨b,2,none⟩=some (.string t.var)∧w.cell? ⟨b,3,none⟩=some (.int .i64 t.val.kind)∧w.cell? ⟨b,4,none⟩=some (.int .i64 t.val.num)∧w.cell? ⟨b,5,none⟩=some (.string t.val.sym):=by
 refine ⟨?_,?_,?_,?_,?_,?_⟩ <;> simp [World.cell?,h,za2]
theorem abs6 {K:List ByteArray}{w:World}{b:Nat}{ty:TypeId}{t:Tm} (h:Hid (w.heap[b]?=some (.cells (za2 t).toArray ty (0,0)))) (hv:zgN K t):∃ t:Tm,zgN K t∧w.cell? ⟨b,0,none⟩=some (.int .i64 t.kind)∧w.cell? ⟨b,1,none⟩=some (.int .i64 t.op)∧w.cell? ⟨b,2,none⟩=some (.string t.var)∧w.cell? ⟨b,3,none⟩=some (.int .i64 t.val.kind)∧w.cell? ⟨b,4,none⟩=some (.int .i64 t.val.num)∧w.cell? ⟨b,5,none⟩=some (.string t.val.sym):=⟨t,hv,box6 h.out⟩
theorem cells6 {w:World}{b:Nat}{ty:TypeId}{x0 x1 x2 x3 x4 x5:Value} (h:w.heap[b]?=some (.cells #[x0,x1,x2,x3,x4,x5] ty (0,0))):w.cell? ⟨b,0,none⟩=some x0∧w.cell? ⟨b,1,none⟩=some x1∧w.cell? ⟨b,2,none⟩=some x2∧w.cell? ⟨b,3,none⟩=some x3∧w.cell? ⟨b,4,none⟩=some x4∧w.cell? ⟨b,5,none⟩=some x5:=by
 refine ⟨?_,?_,?_,?_,?_,?_⟩ <;> simp [World.cell?,h]
theorem frozen6 {w:World}{b:Nat}{ty:TypeId}{c:Array Value} (h:w.heap[b]?=some (.cells c ty (0,0))) (j:Nat):w.frozen? ⟨b,j,none⟩=false:=by
 simp [World.frozen?,h]
theorem Rs.setOwn {g b o:Nat}{u v:World}{x:Value} (h:Rs g u v) (hb:u.heap.size≤b) (hg:g<u.heap.size):Rs g u (v.setCell ⟨b,o,none⟩ x):=
 ⟨⟨h.1.rest.setCell (Nat.zero_le _) _,fun k hk hne=>(Below.heap_setCell _ _ _ _ (by simp;omega)).trans (h.1.block k hk hne)⟩,h.2.old ((Below.refl _ _).setCell (by simp;omega) _)⟩
set_option maxRecDepth 100000 in
set_option maxHeartbeats 3200000 in
theorem zfZ (K:List ByteArray) (g:Nat) (a:Option Addr) (n cp:Nat) (w:World) (h:Rdr w g) (hs:zeK K w g a n):Calls Tryz.prog 121 #[.pointer (some ⟨g,0,none⟩),.slice a n cp] w fun e w'=>∃ t:Tm,zgN K t∧e=.returned (tmV t)∧Rs g w w':=by
 have H:=hidR h
 have HS:=hidR hs
 have hlt:=h.lt
 clear h hs
 have HB:=hidR (fun o=>(H.out.bel ((Below.refl _ _).alloc (Nat.le_refl _) o)))
 go_enter Tryz.func121,Tryz.ntmps121
 go_wp2_with fail
 refine (zbb g _ (HB.out _)).mono ?_
 rintro e w1 ⟨c,hc,rfl,hr⟩
 have hbx:=hidR (zaC hr (heap_alloc_new _ _) (by omega))
 have hR:=hidR (((Rs.of H.out ((Below.refl _ _).alloc (Nat.le_refl _) _)).trans hr))
 have hs1:w.heap.size<w1.heap.size:=zab hbx.out
 have HS1:=hidR (HS.out.rs hR.out)
 clear hr HB HS
 have HA:=hidR (fun o=>(Below.refl _ _).alloc (Nat.le_refl _) o:∀ o,Below w1.heap.size w1 (w1.alloc o))
 have h8:c % 8=0∨(c % 8=1∨c % 8=2)∨c % 8=3∨(4≤c % 8):=by omega
 rcases h8 with h8 | h8 | h8 | h8
 ·have hB2:=hidR (Below.refl w1.heap.size w1)
  go_wp2_with (first | (refine zal (by rfl) 115 (.tmp 4) (.tmp 13) (by rfl) w.heap.size (za2 ⟨0,0,⟨#[]⟩,(0,0,⟨#[]⟩)⟩) (by rfl) (by rfl) _ 115 ((hB2.out.block _ hs1).trans hbx.out) (by rfl) zee (zbN _) ?_;intro w3 hk3 ht3;obtain ⟨t,ht,f0,f1,f2,f3,f4,f5⟩:=abs6 (K:=K) hk3 (zpr K);clear hk3) | fail)
  exact bodyPost_ret (v:=tmV t) (by simp [results,Tryz.results121,go_sem,f0,f1,f2,f3,f4,f5,tmV,za2]) rfl ⟨t,ht,rfl,(hR.out.bel hB2.out).turned ht3.out (Nat.le_refl _) hlt⟩
 ·rcases h8 with h8 | h8
  all_goals
   go_wp2_with fail
   refine (zck g _ hR.out.2).mono ?_
   rintro e w2 ⟨v,hv,rfl,hr2⟩
   have hbx2:=hidR (zaC hr2 hbx.out (by omega))
   have hR2:=hidR (hR.out.trans hr2)
   have hs2:=hr2.1.rest.size
   clear hr2 hbx hR
   unfold vV
   go_wp2_with (first | (refine zal (by rfl) 115 (.tmp 4) (.tmp 19) (by rfl) w.heap.size (za2 ⟨1,0,⟨#[]⟩,v⟩) (by rfl) (by rfl) _ 115 (hbx2.out) (by rfl) zee (zbN _) ?_;intro w3 hk3 ht3;obtain ⟨t,ht,f0,f1,f2,f3,f4,f5⟩:=abs6 (K:=K) hk3 (znp K hv);clear hk3) | fail)
   exact bodyPost_ret (v:=tmV t) (by simp [results,Tryz.results121,go_sem,f0,f1,f2,f3,f4,f5,tmV,za2]) rfl ⟨t,ht,rfl,hR2.out.turned ht3.out (Nat.le_refl _) hlt⟩
 ·have HR1:=hidR (fun o=>hR.out.2.bel (HA.out o))
  by_cases hsp:0<n∧100≤c
  ·obtain ⟨hn0,h100⟩:=hsp
   have hn0':(0:Int)<(n:Int):=by omega
   have h100':(100:Int)≤(c:Int):=by omega
   go_wp2_with fail
   refine (zbb g _ (HR1.out _)).mono ?_
   rintro e w2 ⟨c2,hc2,rfl,hr2⟩
   have hR2:=hidR (((hR.out.bel (HA.out _)).trans hr2))
   have HB6:=hidR (zaC hr2 (heap_alloc_new _ _) (by omega))
   have hbx2:=hidR (zaC hr2 (((HA.out _).block _ hs1).trans hbx.out) (by omega))
   have HS2:=hidR ((HS1.out.bel (HA.out _)).rs hr2)
   have hs2:w1.heap.size<w2.heap.size:=zab HB6.out
   obtain ⟨k,hk⟩:∃ k,k=c2 % n:=⟨_,rfl⟩
   have hkn:k<n:=by rw [hk];exact Nat.mod_lt _ hn0
   have hki:(c2:Int) % (n:Int)=(k:Int):=by rw [hk];omega
   have hkI:(k:Int)<(n:Int):=by omega
   have hk0:(0:Int)≤(k:Int):=by omega
   obtain ⟨b,o,s,rfl,hgb,hss,hcs⟩:=HS2.out.2 k hkn
   obtain ⟨t0,t1,t2,t3,t4,t5⟩:=cells6 HB6.out
   have z2:=frozen6 HB6.out 2
   clear hr2 hk HB6 HS2 hbx hR HA HR1 HS1
   go_wp2_with (first | (refine zal (by rfl) 115 (.tmp 4) (.tmp 46) (by rfl) w.heap.size (za2 ⟨3,_,s,(0,0,⟨#[]⟩)⟩) (by rfl) (by rfl) _ 115 ((Below.heap_setCell _ _ _ _ (by simp;omega)).trans hbx2.out) (by rfl) zee (zbN _) ?_;intro w3 hk3 ht3;obtain ⟨t,ht,f0,f1,f2,f3,f4,f5⟩:=abs6 (K:=K) hk3 (zm3 (by omega) (by omega) hss);clear hk3) | fail)
   exact bodyPost_ret (v:=tmV t) (by simp [results,Tryz.results121,go_sem,f0,f1,f2,f3,f4,f5,tmV,za2]) rfl ⟨t,ht,rfl,(hR2.out.setOwn (b:=w1.heap.size) (by omega) hlt).turned ht3.out (Nat.le_refl _) hlt⟩
  ·by_cases hn0:n=0
   ·subst hn0
    go_wp2_with fail
    refine (zck g _ (HR1.out _)).mono ?_
    rintro e w2 ⟨v,hv,rfl,hr2⟩
    have hR2:=hidR (((hR.out.bel (HA.out _)).trans hr2))
    have HB6:=hidR (zaC hr2 (heap_alloc_new _ _) (by omega))
    have hbx2:=hidR (zaC hr2 (((HA.out _).block _ hs1).trans hbx.out) (by omega))
    have hs2:w1.heap.size<w2.heap.size:=zab HB6.out
    obtain ⟨t0,t1,t2,t3,t4,t5⟩:=cells6 HB6.out
    have z3:=frozen6 HB6.out 3
    have z4:=frozen6 HB6.out 4
    have z5:=frozen6 HB6.out 5
    clear hr2 HB6 hbx hR HA HR1 HS1
    unfold vV
    go_wp2_with (first | (refine zal (by rfl) 115 (.tmp 4) (.tmp 46) (by rfl) w.heap.size (za2 ⟨3,_,⟨#[]⟩,v⟩) (by rfl) (by rfl) _ 115 ((((Below.heap_setCell _ _ _ _ (by simp;omega)).trans (Below.heap_setCell _ _ _ _ (by simp;omega))).trans (Below.heap_setCell _ _ _ _ (by simp;omega))).trans hbx2.out) (by rfl) zee (zbN _) ?_;intro w3 hk3 ht3;obtain ⟨t,ht,f0,f1,f2,f3,f4,f5⟩:=abs6 (K:=K) hk3 (zjJ K (by omega) (by omega) hv);clear hk3) | fail)
    exact bodyPost_ret (v:=tmV t) (by simp [results,Tryz.results121,go_sem,f0,f1,f2,f3,f4,f5,tmV,za2]) rfl ⟨t,ht,rfl,(((hR2.out.setOwn (b:=w1.heap.size) (by omega) hlt).setOwn (b:=w1.heap.size) (by omega) hlt).setOwn (b:=w1.heap.size) (by omega) hlt).turned ht3.out (Nat.le_refl _) hlt⟩
   ·have hn0':(0:Int)<(n:Int):=by omega
    have h100':¬ (100:Int)≤(c:Int):=by omega
    go_wp2_with fail
    refine (zck g _ (HR1.out _)).mono ?_
    rintro e w2 ⟨v,hv,rfl,hr2⟩
    have hR2:=hidR (((hR.out.bel (HA.out _)).trans hr2))
    have HB6:=hidR (zaC hr2 (heap_alloc_new _ _) (by omega))
    have hbx2:=hidR (zaC hr2 (((HA.out _).block _ hs1).trans hbx.out) (by omega))
    have hs2:w1.heap.size<w2.heap.size:=zab HB6.out
    obtain ⟨t0,t1,t2,t3,t4,t5⟩:=cells6 HB6.out
    have z3:=frozen6 HB6.out 3
    have z4:=frozen6 HB6.out 4
    have z5:=frozen6 HB6.out 5
    clear hr2 HB6 hbx hR HA HR1 HS1
    unfold vV
    go_wp2_with (first | (refine zal (by rfl) 115 (.tmp 4) (.tmp 46) (by rfl) w.heap.size (za2 ⟨3,_,⟨#[]⟩,v⟩) (by rfl) (by rfl) _ 115 ((((Below.heap_setCell _ _ _ _ (by simp;omega)).trans (Below.heap_setCell _ _ _ _ (by simp;omega))).trans (Below.heap_setCell _ _ _ _ (by simp;omega))).trans hbx2.out) (by rfl) zee (zbN _) ?_;intro w3 hk3 ht3;obtain ⟨t,ht,f0,f1,f2,f3,f4,f5⟩:=abs6 (K:=K) hk3 (zjJ K (by omega) (by omega) hv);clear hk3) | fail)
    exact bodyPost_ret (v:=tmV t) (by simp [results,Tryz.results121,go_sem,f0,f1,f2,f3,f4,f5,tmV,za2]) rfl ⟨t,ht,rfl,(((hR2.out.setOwn (b:=w1.heap.size) (by omega) hlt).setOwn (b:=w1.heap.size) (by omega) hlt).setOwn (b:=w1.heap.size) (by omega) hlt).turned ht3.out (Nat.le_refl _) hlt⟩
 ·have h8a:¬ (c:Int) % 8=0:=by omega
  have h8b:¬ (c:Int) % 8=1:=by omega
  have h8c:¬ (c:Int) % 8=2:=by omega
  have h8d:¬ (c:Int) % 8=3:=by omega
  have HCV:=hidR (show ((c:Int) / 8)=((c / 8:Nat):Int) by omega)
  go_wp2_with fail
  rw [HCV.out]
  refine (zkx (c / 8) _).mono ?_
  rintro e w2 ⟨s,hs,rfl,hb2⟩
  have hB2:=hidR hb2
  have hs2:=hb2.size
  clear hb2
  go_wp2_with (first | (refine zal (by rfl) 115 (.tmp 4) (.tmp 50) (by rfl) w.heap.size (za2 ⟨2,0,s,(0,0,⟨#[]⟩)⟩) (by rfl) (by rfl) _ 115 ((hB2.out.block _ hs1).trans hbx.out) (by rfl) zee (zbN _) ?_;intro w3 hk3 ht3;obtain ⟨t,ht,f0,f1,f2,f3,f4,f5⟩:=abs6 (K:=K) hk3 (zpg K hs);clear hk3) | fail)
  exact bodyPost_ret (v:=tmV t) (by simp [results,Tryz.results121,go_sem,f0,f1,f2,f3,f4,f5,tmV,za2]) rfl ⟨t,ht,rfl,(hR.out.bel hB2.out).turned ht3.out (Nat.le_refl _) hlt⟩
end Go.Proofs.YtmmdlgjmplddiaaGreat
