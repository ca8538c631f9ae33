/-
  OUR OWN TEXT. One fact more: the model's way, and the program's.
-/
import Derived.Test.YtmmdlgjmplddiaaGreatHaj
import Derived.Deep.RegionLaw
namespace Go.Proofs.YtmmdlgjmplddiaaGreat
open Go.RowKit
attribute [local go_sem ↓] Go.wp_at_zero Go.wp_at_succ
structure PFs (Z:Nat→Prop) (w:World) (base:Nat) (v:Value) (n:Nat) (fs:List F) (xs:List Value):Prop where
 num:n=fs.length
 len:xs.length=fs.length
 own:w.ownsRow base 42 3 v n (frows fs xs)
 each:∀ (i:Nat) (f:F) (x:Value),fs[i]?=some f→xs[i]?=some x→∃ a c,x=.slice a f.slots.length c∧zbX Z w a f.slots
 apart:∀ b,Z b→v.ownBlock≠some b
theorem OFs.pfs {w:World}{base:Nat}{v:Value}{n:Nat}{fs:List F}{xs:List Value} (h:OFs w base v n fs xs):PFs (fun b=>base≤b∧b<w.heap.size∧v.ownBlock≠some b) w base v n fs xs:=by
 refine ⟨h.num,h.len,h.own,fun i f x hf hx=>?_,fun b hb=>hb.2.2⟩
 obtain ⟨⟨a,c,e⟩,ho⟩:=h.each i f x hf hx
 have hap:=h.apart x (List.mem_of_getElem? hx)
 subst e
 refine ⟨a,c,rfl,fun j u hu=>?_⟩
 obtain ⟨b,o,rfl,h1,h2⟩:=zaY.owns ho j u hu
 exact ⟨b,o,⟨(ho.lt b rfl).1,World.block_lt_of_cell? w ⟨b,_,none⟩ h1,fun e=>hap b e rfl⟩,rfl,h1,h2⟩
theorem PFs.below {Z:Nat→Prop}{w w':World}{base:Nat}{v:Value}{n:Nat}{fs:List F}{xs:List Value} (h:PFs Z w base v n fs xs) (hb:Below w.heap.size w w'):PFs Z w' base v n fs xs:=
 ⟨h.num,h.len,zaf h.own (fun g hg=>hb.block g (h.own.lt g hg).2),fun i f x hf hx=>by
  obtain ⟨a,c,e,hv⟩:=h.each i f x hf hx
  exact ⟨a,c,e,hv.kept (fun b _ hlt=>hb.block b hlt)⟩,h.apart⟩
theorem PFs.mono {Z Z':Nat→Prop}{w:World}{base:Nat}{v:Value}{n:Nat}{fs:List F}{xs:List Value} (h:PFs Z w base v n fs xs) (hz:∀ b,Z b→Z' b) (ha:∀ b,Z' b→v.ownBlock≠some b):PFs Z' w base v n fs xs:=
 ⟨h.num,h.len,h.own,fun i f x hf hx=>by
  obtain ⟨a,c,e,hv⟩:=h.each i f x hf hx
  exact ⟨a,c,e,hv.mono hz⟩,ha⟩
theorem PFs.on {Z:Nat→Prop}{w:World}{base:Nat}{a:Option Addr}{n c:Nat}{fs:List F}{xs:List Value} (h:PFs Z w base (.slice a n c) n fs xs):zce (fun b=>Z b∨(Value.slice a n c).ownBlock=some b) w a fs:=by
 intro i f hf
 have hi:i<fs.length:=(List.getElem?_eq_some_iff.1 hf).1
 have hx:xs[i]?=some (xs[i]'(by rw [h.len];exact hi)):=List.getElem?_eq_getElem _
 obtain ⟨a',c',e,ho⟩:=h.each i f _ hf hx
 have key:=fun j (hj:j<3)=>zdK fs xs h.len i f _ hf hx j hj
 obtain ⟨g,rfl,_,h0,_⟩:=zam h.own ((key 0 (by omega)).trans rfl)
 obtain ⟨g1,he1,_,h1,_⟩:=zam h.own ((key 1 (by omega)).trans rfl)
 obtain ⟨g2,he2,_,h2,_⟩:=zam h.own ((key 2 (by omega)).trans rfl)
 cases he1
 cases he2
 rw [e] at h2
 exact ⟨g,0,.inr rfl,rfl,by simpa using h0,by simpa using h1,a',c',by simpa using h2,ho.mono (fun b hz=>.inl hz)⟩
theorem PFs.snoc {Z:Nat→Prop}{w w':World}{base:Nat}{v v':Value}{n:Nat}{fs:List F}{xs:List Value}{f:F}{x:Value} (h:PFs Z w base v n fs xs) (hZ:∀ b,Z b→b<w.heap.size) (hx:∃ a c,x=.slice a f.slots.length c∧zbX Z w a f.slots)
  (ho:w'.ownsRow base 42 3 v' (n+1) (frows fs xs ++ fcells f x)) (hg:w.grownBy w' v.ownBlock) (hl:v'.ownBlock=v.ownBlock∨v'.ownBlock=some w.heap.size):PFs Z w' base v' (n+1) (fs ++ [f]) (xs ++ [x]):=by
 have keep:∀ (a:Option Addr) (vs:List V),zbX Z w a vs→zbX Z w' a vs:=fun a vs hv=>hv.kept (fun b hz hlt=>hg.block b hlt (fun e=>h.apart b hz e.symm))
 refine ⟨by simp [h.num],by simp [h.len],by rw [zf8 fs xs h.len];exact ho,?_,?_⟩
 ·intro i f' y hf hy
  by_cases hi:i<fs.length
  ·rw [List.getElem?_append_left hi] at hf
   rw [List.getElem?_append_left (by rw [h.len];exact hi)] at hy
   obtain ⟨a,c,e,hv⟩:=h.each i f' y hf hy
   exact ⟨a,c,e,keep a _ hv⟩
  ·have hil:i<(fs ++ [f]).length:=(List.getElem?_eq_some_iff.1 hf).1
   simp at hil
   obtain rfl:i=fs.length:=by omega
   rw [List.getElem?_append_right (Nat.le_refl _)] at hf
   rw [List.getElem?_append_right (by rw [h.len];exact Nat.le_refl _),h.len] at hy
   simp at hf hy
   subst hf
   subst hy
   obtain ⟨a,c,e,hv⟩:=hx
   exact ⟨a,c,e,keep a _ hv⟩
 ·intro b hz
  rcases hl with hl | hl
  ·rw [hl];exact h.apart b hz
  ·rw [hl]
   intro e
   cases e
   have:=hZ _ hz
   omega
theorem znQ {W w1:World} (hb:Below W.drew.heap.size W.drew w1):(∀ b o,b<W.heap.size→w1.cell? ⟨b,o,none⟩=W.cell? ⟨b,o,none⟩)∧(∀ b o,b<W.heap.size→w1.frozen? ⟨b,o,none⟩=W.frozen? ⟨b,o,none⟩):=
 ⟨fun b o h=>hb.cell (p:=⟨b,o,none⟩) h,fun b o h=>hb.frozen (p:=⟨b,o,none⟩) h⟩
theorem zfw {w w1 w2:World}{o:Obj}{v:Value} (hg:(w1.alloc o).grownBy w2 v.ownBlock) (hv:∀ g,v.ownBlock=some g→g<w.heap.size) (b:Nat) (hb:w.heap.size≤b) (hlt:b<w1.heap.size) :
  (∀ j,w2.cell? ⟨b,j,none⟩=w1.cell? ⟨b,j,none⟩)∧(∀ j,w2.frozen? ⟨b,j,none⟩=w1.frozen? ⟨b,j,none⟩):=by
 have e:w2.heap[b]?=w1.heap[b]?:=(hg.block b (by simp;omega) (fun e=>by have:=hv b e.symm;omega)).trans (Below.heap_alloc _ _ _ hlt)
 exact ⟨fun j=>World.cell?_of_block (a:=⟨b,j,none⟩) e,fun j=>by simp [World.frozen?,e]⟩
set_option maxRecDepth 100000 in
set_option maxHeartbeats 1600000 in
theorem zlz (a:Option Addr) (c:Nat) (fs:List F) (xs:List Value) (nx cp:Int) (sg:Bool) (cls:ByteArray) (sa:Option Addr) (sc:Nat) (vs:List V) (Z:Nat→Prop) (base:Nat) (w:World) (hp:PFs Z w base (.slice a fs.length c) fs.length fs xs) (hZ:∀ b,Z b→b<w.heap.size) (hsv:zaY w sa vs) (hl:fs.length≤1048576) (hvl:vs.length≤1048576) (hbase:base≤w.heap.size) (h1:0≤nx) (h2:nx≤1000000) :
  Calls Tryz.prog 91 #[.agg #[.slice a fs.length c,.int .i64 nx,.int .i64 cp,.bool sg],.string cls,.slice sa vs.length sc] w fun e w'=>
   (∃ a' c',e=.returned (C6.val ⟨fs ++ [⟨nx,cls,vs⟩],nx+1,cp,sg,0,nx⟩ a' c')∧zce (fun b=>Z b∨base≤b) w' a' (fs ++ [⟨nx,cls,vs⟩])∧fs.length+1≤c')∧Below base w w':=by
 have B2:∀ o o',Below w.heap.size w ((w.alloc o).alloc o'):=fun o o'=>((Below.refl _ _).alloc (Nat.le_refl _) _).alloc (by simp) _
 have hw1:IntKind.i64.wrap (nx+1)=nx+1:=by rw [IntKind.wrap_i64];omega
 have hw2:IntKind.i64.wrap (nx+1 - 1)=nx:=by rw [IntKind.wrap_i64];omega
 have HP:=hidden' hp
 have hvb:=hidden' (fun g (hg:(Value.slice a fs.length c).ownBlock=some g)=>(hp.own.lt g hg).2)
 clear hp
 go_enter Tryz.func91,Tryz.ntmps91
 go_wp2_with fail
 go_region_law (first | (go_simp;go_at_call 126;refine (zeX sa sc vs _ (hsv.below ?_) hvl).mono ?_;exact (B2 _ _).drew;rintro e w1 ⟨⟨a1,c1,rfl,hx1⟩,hb1⟩;obtain ⟨hc1,hf1⟩:=znQ hb1;have HX:=hidden' hx1;clear hx1;have ho1:=hidden' ((HP.out.below (B2 _ _).drew).below hb1);have hzB:w.heap.size+1<w1.heap.size:=Nat.lt_of_lt_of_le (by simp) hb1.size;have hzA:w.heap.size<w1.heap.size:=(by omega)) | (refine zaq (by rfl) (.tmp 8) (.tmp 15) 24 (by rfl) base 42 _ 3 48 Tryz.underlying24 znN (by rfl) (by omega) _ fs.length _ (by rfl) (ho1.out.own.alloc _) (some ⟨w1.heap.size,0,none⟩) 1 1 (by rfl) (fcells ⟨nx,cls,vs⟩ (.slice a1 vs.length c1)) (by rfl) (fun e=>by cases e) (by exact zfX _ _ _) (zeg _ _ _ _) (by unfold maxLen;omega) (by omega) (by have h2:=hb1.size;simp at h2 ⊢;omega) ?_;intro a2 c2' w2 ho2 hg2 hl2;obtain ⟨hcA0,hfA0⟩:=zfw hg2.out hvb.out w.heap.size (Nat.le_refl _) hzA;obtain ⟨hcB0,hfB0⟩:=zfw hg2.out hvb.out (w.heap.size+1) (by omega) hzB;have hcA:=fun j=>(hcA0 j).trans (hc1 w.heap.size j (by simp;omega));have hfA:=fun j=>(hfA0 j).trans (hf1 w.heap.size j (by simp;omega));have hcB:=fun j=>(hcB0 j).trans (hc1 (w.heap.size+1) j (by simp));have hfB:=fun j=>(hfB0 j).trans (hf1 (w.heap.size+1) j (by simp));clear hcA0 hfA0 hcB0 hfB0 hc1 hf1) | fail)
 all_goals
  have hZ2:∀ b,(Z b∨(w.heap.size+1+1≤b∧b<w1.heap.size))→b<w1.heap.size:=fun b hb=>by
   rcases hb with hb | hb
   ·have:=hZ b hb;omega
   ·exact hb.2
  have hm:=(ho1.out.below ((Below.refl _ _).alloc (Nat.le_refl _) (.cells (fcells ⟨nx,cls,vs⟩ (.slice a1 vs.length c1)).toArray 42))).mono (Z':=fun b=>Z b∨(w.heap.size+1+1≤b∧b<w1.heap.size)) (fun b hb=>.inl hb) (fun b hb=>by
   rcases hb with hb | hb
   ·exact ho1.out.apart b hb
   ·intro e;have:=hvb.out b e;omega)
  have hnew:zbX (fun b=>Z b∨(w.heap.size+1+1≤b∧b<w1.heap.size)) (w1.alloc (.cells (fcells ⟨nx,cls,vs⟩ (.slice a1 vs.length c1)).toArray 42)) a1 vs:=
   ((zbX.owns HX.out.2).mono (fun b hb=>.inr (by have:=hb.1;simp at this;exact ⟨this,hb.2⟩))).kept (fun b _ hlt=>Below.heap_alloc _ _ _ hlt)
  have hS:=hm.snoc (f:=⟨nx,cls,vs⟩) (fun b hb=>by have:=hZ2 b hb;simp;omega) ⟨a1,c1,rfl,hnew⟩ ho2.out hg2.out hl2.out
  have HS:=hidden' hS.on
  have HB2:=hidden' ho2.out.lt
  clear hm hnew hS
  go_wp2
  refine bodyPost_ret (v:=C6.val ⟨fs ++ [⟨nx,cls,vs⟩],nx+1,cp,sg,0,nx⟩ a2 c2') (by simp [results,Tryz.results91,go_sem,hcB,C6.val]) rfl ⟨⟨a2,c2',rfl,?_,zdD ho2.out⟩,?_⟩
  ·refine (HS.out.kept (w':=_) ?_).mono ?_
   rotate_left
   ·intro b hz
    rcases hz with (hz | hz) | hz
    ·exact .inl hz
    ·exact .inr (by omega)
    ·exact .inr (HB2.out b hz).1
   intro b hz _
   have hne:b≠w.heap.size∧b≠w.heap.size+1:=by
    rcases hz with (hz | hz) | hz
    ·have:=hZ b hz;omega
    ·omega
    ·rcases hl2.out with e | e
     ·have:=hvb.out b (e.symm.trans hz);omega
     ·have:=e.symm.trans hz
      simp at this
      omega
   have k1:∀ (v:World) o u,(v.setCell ⟨w.heap.size,o,none⟩ u).heap[b]?=v.heap[b]?:=fun v o u=>Below.heap_setCell _ _ _ _ hne.1
   have k2:∀ (v:World) o u,(v.setCell ⟨w.heap.size+1,o,none⟩ u).heap[b]?=v.heap[b]?:=fun v o u=>Below.heap_setCell _ _ _ _ hne.2
   simp only [k1,k2]
  ·have hW1:Below base w w1:=((B2 _ _).drew.trans (hb1.mono (by simp;omega))).mono hbase
   have hW2:Below base w w2:=(hW1.alloc (by omega) _).grown hg2.out (by simp;omega) (fun j hj=>(ho1.out.own.lt j hj).1)
   exact (((((((hW2.setCell (by simp;omega) _).setCell (by simp;omega) _).setCell (by simp;omega) _).setCell (by simp;omega) _).setCell (by simp;omega) _).setCell (by simp;omega) _).setCell (by simp;omega) _).setCell (by simp;omega) _
end Go.Proofs.YtmmdlgjmplddiaaGreat
