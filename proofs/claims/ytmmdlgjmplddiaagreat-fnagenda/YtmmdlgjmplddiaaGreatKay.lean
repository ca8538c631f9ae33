/-
  OUR OWN TEXT. Rn1, Dw2, Key, KeyLit, Ofs, Ao1, Ao2, one behind the other.
-/
import Derived.Test.YtmmdlgjmplddiaaGreatKar
import Derived.Test.YtmmdlgjmplddiaaGreatKak
import Derived.Deep.RegionHeld3
import Derived.Test.YtmmdlgjmplddiaaGreatKah
import Derived.Test.YtmmdlgjmplddiaaGreatKas
import Derived.Test.YtmmdlgjmplddiaaGreatSpec3m
import Derived.Test.YtmmdlgjmplddiaaGreatSpec2m
import Derived.Deep.DrawnRows
import Derived.Maps.RangeWalk
import Derived.Test.YtmmdlgjmplddiaaGreatKaj
import Derived.Maps.OwnSet
import Derived.DeepKeys4
import Derived.Test.YtmmdlgjmplddiaaGreatKam
import Derived.Test.YtmmdlgjmplddiaaGreatKaq
import Derived.Test.YtmmdlgjmplddiaaGreatSym
import Derived.BigQuiet
namespace Go.Proofs.YtmmdlgjmplddiaaGreat
open Go.RowKit
attribute [local go_sem ↓] Go.wp_at_zero Go.wp_at_succ
theorem hidR {p:Prop} (h:p):Hid p:=h
def Rdr (w:World) (g:Nat):Prop:=∃ (a:Option Addr) (n c i:Nat),w.heap[g]?=some (.cells #[.slice a n c,.int .i64 (i:Int)] 64 (0,0))∧i≤n∧n≤1048576 ∧
 ∀ j,j<n→∃ (b o:Nat) (u:Nat),a=some ⟨b,o,none⟩∧b<g∧u<256∧w.cell? ⟨b,o+j,none⟩=some (.int .u8 (u:Int))
theorem Rdr.bel {w w':World}{g:Nat} (h:Rdr w g) (hb:Below w.heap.size w w'):Rdr w' g:=by
 obtain ⟨a,n,c,i,h1,h2,h3,h4⟩:=h
 refine ⟨a,n,c,i,(hb.block g (zab h1)).trans h1,h2,h3,fun j hj=>?_⟩
 obtain ⟨b,o,u,e1,e2,e3,e4⟩:=h4 j hj
 exact ⟨b,o,u,e1,e2,e3,zaa hb e4⟩
theorem Rdr.lt {w:World}{g:Nat} (h:Rdr w g):g<w.heap.size:=by
 obtain ⟨a,n,c,i,h1,_⟩:=h
 exact zab h1
theorem Rdr.old {w w':World}{g:Nat} (h:Rdr w g) (hb:Below (g+1) w w'):Rdr w' g:=by
 obtain ⟨a,n,c,i,h1,h2,h3,h4⟩:=h
 refine ⟨a,n,c,i,(hb.block g (by omega)).trans h1,h2,h3,fun j hj=>?_⟩
 obtain ⟨b,o,u,e1,e2,e3,e4⟩:=h4 j hj
 refine ⟨b,o,u,e1,e2,e3,?_⟩
 rw [← e4]
 exact World.cell?_of_block (w:=w) (hb.block b (by omega))
def Rs (g:Nat) (w w':World):Prop:=MkO (some g) w w'∧Rdr w' g
theorem Rs.trans {g:Nat}{u v w:World} (h:Rs g u v) (k:Rs g v w):Rs g u w:=⟨h.1.trans k.1,k.2⟩
theorem Rs.bel {g:Nat}{u v w:World} (h:Rs g u v) (hb:Below v.heap.size v w):Rs g u w:=⟨h.1.trans (MkO.of_below hb),h.2.bel hb⟩
theorem Rs.refl {g:Nat}{w:World} (h:Rdr w g):Rs g w w:=⟨MkO.refl _ _,h⟩
theorem Rs.of {g:Nat}{w w':World} (h:Rdr w g) (hb:Below w.heap.size w w'):Rs g w w':=(Rs.refl h).bel hb
set_option maxHeartbeats 1600000 in
theorem zbb (g:Nat) (w:World) (h:Rdr w g):Calls Tryz.prog 49 #[.pointer (some ⟨g,0,none⟩)] w fun e w'=>∃ c:Nat,c<256∧e=.returned (.int .i64 (c:Int))∧Rs g w w':=by
 have H:=hidR h
 obtain ⟨a,n,c,i,h1,h2,h3,h4⟩:=h
 have c0:w.cell? ⟨g,0,none⟩=some (.slice a n c):=by simp [World.cell?,h1]
 have c1:w.cell? ⟨g,1,none⟩=some (.int .i64 (i:Int)):=by simp [World.cell?,h1]
 have z1:w.frozen? ⟨g,1,none⟩=false:=by simp [World.frozen?,h1]
 have hlt:g<w.heap.size:=zab h1
 have H1:=hidR h1
 have H4:=hidR h4
 clear h1 h4
 by_cases hin:i<n
 ·obtain ⟨b,o,u,rfl,hbg,hu,hcu⟩:=H4.out i hin
  have hI:((i:Nat):Int)<((n:Nat):Int):=by omega
  have hI0:(0:Int)≤(i:Int):=by omega
  go_enter Tryz.func49,Tryz.ntmps49
  go_wp2
  go_region
  go_wp2
  go_region
  go_wp2
  go_ret
  refine ⟨u,hu,rfl,?_,?_⟩
  ·exact (MkO.set _).trans (MkO.of_below (Below.refl _ _).drew.drew)
  ·refine ⟨some ⟨b,o,none⟩,n,c,i+1,?_,by omega,h3,fun j hj=>?_⟩
   ·have:=zaf (w:=w) (g:=g) (i:=1) H1.out (.int .i64 ((i:Int)+1))
    exact this
   ·obtain ⟨b',o',u',e1,e2,e3,e4⟩:=H4.out j hj
    refine ⟨b',o',u',e1,e2,e3,?_⟩
    rw [← e4]
    exact World.cell?_of_block (w:=w) (Below.heap_setCell _ _ _ _ (Nat.ne_of_lt e2))
 ·go_enter Tryz.func49,Tryz.ntmps49
  go_wp2
  go_region
  go_wp2
  go_ret
  exact ⟨0,by omega,rfl,Rs.of H.out (Below.refl _ _).drew⟩
end Go.Proofs.YtmmdlgjmplddiaaGreat
namespace Go.Proofs.YtmmdlgjmplddiaaGreat
open Go.RowKit
attribute [local go_sem ↓] Go.wp_at_zero Go.wp_at_succ
theorem zaC {g b:Nat}{w w':World}{o:Obj} (h:Rs g w w') (hb:w.heap[b]?=some o) (hne:b≠g):w'.heap[b]?=some o:=
 (h.1.block b (zab hb) (fun e=>hne (by injection e with e;exact e.symm))).trans hb
theorem zg1 {g b o:Nat}{w w':World}{v:Value} (h:Rs g w w') (hb:w.cell? ⟨b,o,none⟩=some v) (hne:b≠g):w'.cell? ⟨b,o,none⟩=some v:=by
 rw [← hb]
 exact World.cell?_of_block (w:=w) (h.1.block b (World.block_lt_of_cell? w ⟨b,o,none⟩ hb) (fun e=>hne (by injection e with e;exact e.symm)))
def GCl (s:ByteArray):Prop:=s.size≤20∧gCls s=true
def GNm (s:ByteArray):Prop:=s.size≤20∧gSym s.data.toList=true
set_option maxHeartbeats 800000 in
theorem zfv (c:Nat) (w:World):Calls Tryz.prog 120 #[.int .i64 (c:Int)] w fun e w'=>∃ s:ByteArray,GCl s∧e=.returned (.string s)∧Below w.heap.size w w':=by
 have h3:c % 3=0∨c % 3=1∨c % 3=2:=by omega
 rcases h3 with h | h | h
 all_goals
  go_enter Tryz.func120,Tryz.ntmps120
  go_wp2
  go_ret
  exact ⟨_,⟨by decide,by decide⟩,rfl,(Below.refl _ _).alloc (Nat.le_refl _) _⟩
set_option maxHeartbeats 800000 in
theorem zkx (c:Nat) (w:World):Calls Tryz.prog 147 #[.int .i64 (c:Int)] w fun e w'=>∃ s:ByteArray,GNm s∧e=.returned (.string s)∧Below w.heap.size w w':=by
 have h3:c % 3=0∨c % 3=1∨c % 3=2:=by omega
 rcases h3 with h | h | h
 all_goals
  go_enter Tryz.func147,Tryz.ntmps147
  go_wp2
  go_ret
  exact ⟨_,⟨by decide,by decide⟩,rfl,(Below.refl _ _).alloc (Nat.le_refl _) _⟩
def vV (v:V):Value:=.agg #[.int .i64 v.kind,.int .i64 v.num,.string v.sym]
theorem zmt (s:ByteArray) (w:World):Calls Tryz.prog 149 #[.string s] w fun e w'=>e=.returned (vV (1,0,s))∧Below w.heap.size w w':=by
 go_enter Tryz.func149,Tryz.ntmps149
 go_wp2
 exact bodyPost_ret (v:=vV (1,0,s)) (by simp [results,Tryz.results149,go_sem,vV,V.kind,V.num,V.sym]) rfl ⟨rfl,(Below.refl _ _).alloc (Nat.le_refl _) _⟩
theorem zgJ (n:Int) (w:World):Calls Tryz.prog 150 #[.int .i64 n] w fun e w'=>e=.returned (vV (0,n,⟨#[]⟩))∧Below w.heap.size w w':=by
 go_enter Tryz.func150,Tryz.ntmps150
 go_wp2
 exact bodyPost_ret (v:=vV (0,n,⟨#[]⟩)) (by simp [results,Tryz.results150,go_sem,vV,V.kind,V.num,V.sym]) rfl ⟨rfl,(Below.refl _ _).alloc (Nat.le_refl _) _⟩
def VSm (v:V):Prop:=v.sym.size≤20∧(-9223372036854775808≤v.kind∧v.kind≤9223372036854775807) ∧ -9223372036854775808≤v.num∧v.num≤9223372036854775807∧gVal v=true
theorem zow (s:ByteArray) (h:s.size≤20) (hg:gVal (1,0,s)=true):VSm (1,0,s):=⟨h,⟨show (_:Int)≤1 by decide,show (1:Int)≤_ by decide⟩,show (_:Int)≤0 by decide,show (0:Int)≤_ by decide,hg⟩
theorem zja (n:Int) (h1:-9223372036854775808≤n) (h2:n≤9223372036854775807):VSm (0,n,⟨#[]⟩):=⟨Nat.zero_le 20,⟨show (_:Int)≤0 by decide,show (0:Int)≤_ by decide⟩,h1,h2,zmJ n⟩
theorem zdY:VSm (0,0,⟨#[]⟩):=zja 0 (by decide) (by decide)
theorem box3 {w:World}{b:Nat}{t:TypeId}{v:V} (h:w.heap[b]?=some (.cells (V.cells v).toArray t (0,0))):w.cell? ⟨b,0,none⟩=some (.int .i64 v.kind)∧w.cell? ⟨b,1,none⟩=some (.int .i64 v.num)∧w.cell? ⟨b,2,none⟩=some (.string v.sym):=by
 refine ⟨?_,?_,?_⟩ <;> simp [World.cell?,h,V.cells]
theorem zd5:(Tryz.prog.info? 109).map (·.size)=some 3:=by kernel_rfl
theorem V.cells_one (v:V):∀ u∈V.cells v,u.oneCell'=true:=by
 intro u hu
 simp [V.cells] at hu
 rcases hu with rfl | rfl | rfl <;> rfl
theorem Rs.turned {g b:Nat}{u v w:World} (h:Rs g u v) (ht:Turned v w b) (hb:u.heap.size≤b) (hg:g<u.heap.size):Rs g u w:=by
 refine ⟨⟨h.1.rest.trans (ht.below (Nat.zero_le _)),fun k hk hne=>(ht.block k (by omega)).trans (h.1.block k hk hne)⟩,?_⟩
 exact h.2.old (ht.below (by omega))
theorem abs3 {w:World}{b:Nat}{t:TypeId}{v:V} (h:Hid (w.heap[b]?=some (.cells (V.cells v).toArray t (0,0)))) (hv:VSm v):∃ v:V,VSm v∧w.cell? ⟨b,0,none⟩=some (.int .i64 v.kind)∧w.cell? ⟨b,1,none⟩=some (.int .i64 v.num)∧w.cell? ⟨b,2,none⟩=some (.string v.sym):=⟨v,hv,box3 h.out⟩
set_option maxRecDepth 100000 in
set_option maxHeartbeats 1600000 in
theorem zck (g:Nat) (w:World) (h:Rdr w g):Calls Tryz.prog 123 #[.pointer (some ⟨g,0,none⟩)] w fun e w'=>∃ v:V,VSm v∧e=.returned (vV v)∧Rs g w w':=by
 have H:=hidR h
 have hlt:=h.lt
 clear h
 have HB:=hidR (fun o=>(H.out.bel ((Below.refl _ _).alloc (Nat.le_refl _) o)))
 go_enter Tryz.func123,Tryz.ntmps123
 go_wp2_with fail
 refine (zbb g _ (HB.out _)).mono ?_
 rintro e w1 ⟨c,hc,rfl,hr⟩
 have hbx:=hidR (zaC hr (heap_alloc_new _ _) (by omega))
 have hR:=hidR (((Rs.of H.out ((Below.refl _ _).alloc (Nat.le_refl _) _)).trans hr))
 have hs1:w.heap.size<w1.heap.size:=zab hbx.out
 clear hr HB
 have HA:=hidR (fun o=>(Below.refl _ _).alloc (Nat.le_refl _) o:∀ o,Below w1.heap.size w1 (w1.alloc o))
 by_cases h3:c % 3=0
 ·have hk:c / 3 % 3=0∨c / 3 % 3=1∨c / 3 % 3=2:=by omega
  rcases hk with hk | hk | hk
  all_goals
   go_wp2_with fail
   refine (zmt _ _).mono ?_
   rintro e w2 ⟨rfl,hb2⟩
   have hB2:=hidR ((HA.out _).trans (hb2.mono (HA.out _).size))
   have hs2:=hB2.out.size
   clear hb2
   go_wp2_with (first | (refine zal (by rfl) 109 (.tmp 2) (.tmp 16) (by rfl) w.heap.size (V.cells (1,0,_)) (by rfl) (by rfl) _ 109 ((hB2.out.block _ hs1).trans hbx.out) (by rfl) zd5 (V.cells_one _) ?_;intro w3 hk3 ht3;obtain ⟨v,hv,f0,f1,f2⟩:=abs3 hk3 (zow _ (by first | decide | exact Nat.zero_le 20) (by decide));clear hk3) | fail)
   exact bodyPost_ret (v:=vV v) (by simp [results,Tryz.results123,go_sem,f0,f1,f2,vV]) rfl ⟨v,hv,rfl,(hR.out.bel hB2.out).turned ht3.out (Nat.le_refl _) hlt⟩
 have h3':¬ (c:Int) % 3=0:=by omega
 by_cases h250:250≤c
 ·have h250':(250:Int)≤(c:Int):=by omega
  have hk:c % 4=1∨c % 4=2∨c % 4=3:=by omega
  rcases hk with hk | hk | hk
  all_goals
   go_wp2_with fail
   refine (zgJ _ _).mono ?_
   rintro e w2 ⟨rfl,hb2⟩
   have hB2:=hidR ((HA.out _).trans (hb2.mono (HA.out _).size))
   have hs2:=hB2.out.size
   clear hb2
   go_wp2_with (first | (refine zal (by rfl) 109 (.tmp 2) (.tmp 25) (by rfl) w.heap.size (V.cells (0,_,_)) (by rfl) (by rfl) _ 109 ((hB2.out.block _ hs1).trans hbx.out) (by rfl) zd5 (V.cells_one _) ?_;intro w3 hk3 ht3;obtain ⟨v,hv,f0,f1,f2⟩:=abs3 hk3 (zja _ (by first | decide | omega) (by first | decide | omega));clear hk3) | fail)
   exact bodyPost_ret (v:=vV v) (by simp [results,Tryz.results123,go_sem,f0,f1,f2,vV]) rfl ⟨v,hv,rfl,(hR.out.bel hB2.out).turned ht3.out (Nat.le_refl _) hlt⟩
 ·have h250':¬ (250:Int)≤(c:Int):=by omega
  go_wp2_with fail
  refine (zgJ _ _).mono ?_
  rintro e w2 ⟨rfl,hb2⟩
  ·have hB2:=hidR hb2
   have hs2:=hB2.out.size
   clear hb2
   go_wp2_with (first | (refine zal (by rfl) 109 (.tmp 2) (.tmp 30) (by rfl) w.heap.size (V.cells (0,_,_)) (by rfl) (by rfl) _ 109 ((hB2.out.block _ hs1).trans hbx.out) (by rfl) zd5 (V.cells_one _) ?_;intro w3 hk3 ht3;obtain ⟨v,hv,f0,f1,f2⟩:=abs3 hk3 (zja _ (by first | decide | omega) (by first | decide | omega));clear hk3) | fail)
   exact bodyPost_ret (v:=vV v) (by simp [results,Tryz.results123,go_sem,f0,f1,f2,vV]) rfl ⟨v,hv,rfl,(hR.out.bel hB2.out).turned ht3.out (Nat.le_refl _) hlt⟩
end Go.Proofs.YtmmdlgjmplddiaaGreat
namespace Go.Proofs.YtmmdlgjmplddiaaGreat
open Go.RowKit
attribute [local go_sem ↓] Go.wp_at_zero Go.wp_at_succ
theorem zjs (vs:List V):(vs.flatMap V.cells).length=vs.length * 3:=by
 induction vs with
 | nil=>rfl
 | cons v r ih=>simp [ih,V.cells];omega
theorem zno (vs:List V):∀ x∈vs.flatMap V.cells,x.oneCell'=true:=by
 intro x hx
 obtain ⟨v,_,hv⟩:=List.mem_flatMap.1 hx
 simp [V.cells] at hv
 rcases hv with rfl | rfl | rfl <;> rfl
theorem zmf (vs:List V) (j:Nat) (x:Value) (h:(vs.flatMap V.cells)[j]?=some x):∃ v,vs[j / 3]?=some v∧v.cells[j % 3]?=some x:=by
 induction vs generalizing j with
 | nil=>simp at h
 | cons v r ih=>
  rw [List.flatMap_cons] at h
  by_cases hj:j<3
  ·rw [List.getElem?_append_left (by simpa [V.cells] using hj)] at h
   refine ⟨v,?_,?_⟩
   ·rw [show j / 3=0 by omega];rfl
   ·rwa [show j % 3=j by omega]
  ·rw [List.getElem?_append_right (by simp [V.cells];omega)] at h
   obtain ⟨u,h1,h2⟩:=ih (j - v.cells.length) h
   simp only [V.cells,List.length_cons,List.length_nil] at h1 h2
   refine ⟨u,?_,?_⟩
   ·rw [show j / 3=(j - (0+1+1+1)) / 3+1 by omega];exact h1
   ·rwa [show j % 3=(j - (0+1+1+1)) % 3 by omega]
theorem zaV.flat {w:World}{ad:Addr}{vs:List V} (h:zaV w (some ad) vs) (j:Nat) (x:Value) (hx:(vs.flatMap V.cells)[j]?=some x):w.cell? (ad.add j)=some x:=by
 obtain ⟨v,hv,hc⟩:=zmf vs j x hx
 obtain ⟨b,o,he,h0,h1,h2⟩:=h _ v hv
 cases he
 have hadd:(⟨b,o,none⟩:Addr).add j=⟨b,o+j,none⟩:=Addr.add_mid b o j
 rw [hadd]
 rcases (show j % 3=0∨j % 3=1∨j % 3=2 by omega) with e | e | e <;> rw [e] at hc <;> simp [V.cells] at hc <;> subst hc
 ·rw [show o+j=o+j / 3 * 3 by omega];exact h0
 ·rw [show o+j=o+j / 3 * 3+1 by omega];exact h1
 ·rw [show o+j=o+j / 3 * 3+2 by omega];exact h2
theorem zaV.nil {w:World}{vs:List V} (h:zaV w none vs):vs.length=0:=by
 cases vs with
 | nil=>rfl
 | cons v r=>
  obtain ⟨b,o,he,_⟩:=h 0 v rfl
  cases he
theorem ziP (w:World) (o:Obj) (n:Nat) (h:w.heap.size=n):(w.alloc o).heap[n]?=some o:=by
 subst h
 exact heap_alloc_new _ _
end Go.Proofs.YtmmdlgjmplddiaaGreat
namespace Go.Proofs.YtmmdlgjmplddiaaGreat
open Go.RowKit Go.Maps
end Go.Proofs.YtmmdlgjmplddiaaGreat
namespace Go.Proofs.YtmmdlgjmplddiaaGreat
open Go.RowKit
def frows (fs:List F) (xs:List Value):List Value:=(fs.zip xs).flatMap fun p=>fcells p.1 p.2
theorem Apart.symm {x y:Value} (h:Apart x y):Apart y x:=fun g hy hx=>h g hx hy
theorem zdK {w:World}{base:Nat}{e:TypeId}{m:Nat}{a:Option Addr}{n c:Nat}{xs:List Value} (h:w.ownsRow base e m (.slice a n c) n xs):n≤c:=by
 rcases h.2 with ⟨_,h1⟩ | ⟨g,cap,cur,hv,_,_,hn,_⟩
 ·omega
 ·cases hv
  exact hn
structure OFs (w:World) (base:Nat) (v:Value) (n:Nat) (fs:List F) (xs:List Value):Prop where
 num:n=fs.length
 len:xs.length=fs.length
 own:w.ownsRow base 42 3 v n (frows fs xs)
 each:∀ (i:Nat) (f:F) (x:Value),fs[i]?=some f→xs[i]?=some x→(∃ a c,x=.slice a f.slots.length c)∧w.ownsRow base 109 3 x f.slots.length (f.slots.flatMap V.cells)
 apart:∀ x∈xs,Apart v x
 pair:xs.Pairwise Apart
def zpj (v:Value) (xs:List Value) (g:Nat):Prop:=v.ownBlock=some g∨∃ x∈xs,x.ownBlock=some g
theorem OFs.each' {w:World}{base:Nat}{v:Value}{n:Nat}{fs:List F}{xs:List Value} (h:OFs w base v n fs xs) {x:Value} (hx:x∈xs):∃ f∈fs,w.ownsRow base 109 3 x f.slots.length (f.slots.flatMap V.cells):=by
 obtain ⟨i,hi,rfl⟩:=List.getElem_of_mem hx
 have hf:i<fs.length:=by rw [← h.len];exact hi
 exact ⟨fs[i],List.getElem_mem hf,(h.each i _ _ (List.getElem?_eq_getElem hf) (List.getElem?_eq_getElem hi)).2⟩
theorem OFs.range {w:World}{base:Nat}{v:Value}{n:Nat}{fs:List F}{xs:List Value} (h:OFs w base v n fs xs) {g:Nat} (hg:zpj v xs g):base≤g∧g<w.heap.size:=by
 rcases hg with hg | ⟨x,hx,hg⟩
 ·exact h.own.lt g hg
 ·obtain ⟨f,_,ho⟩:=h.each' hx
  exact ho.lt g hg
theorem OFs.kept {w w':World}{base:Nat}{v:Value}{n:Nat}{fs:List F}{xs:List Value} (h:OFs w base v n fs xs) (hb:∀ g,zpj v xs g→w'.heap[g]?=w.heap[g]?):OFs w' base v n fs xs:=
 ⟨h.num,h.len,zae h.own (fun g hg=>hb g (.inl hg)),fun i f x hf hx=>⟨(h.each i f x hf hx).1,zae (h.each i f x hf hx).2 (fun g hg=>hb g (.inr ⟨x,List.mem_of_getElem? hx,hg⟩))⟩,h.apart,h.pair⟩
theorem OFs.below {w w':World}{base:Nat}{v:Value}{n:Nat}{fs:List F}{xs:List Value} (h:OFs w base v n fs xs) (hb:Below w.heap.size w w'):OFs w' base v n fs xs:=
 h.kept fun g hg=>hb.block g (h.range hg).2
theorem OFs.lower {w:World}{base base':Nat}{v:Value}{n:Nat}{fs:List F}{xs:List Value} (h:OFs w base v n fs xs) (hb:base'≤base):OFs w base' v n fs xs:=
 ⟨h.num,h.len,zan h.own hb,fun i f x hf hx=>⟨(h.each i f x hf hx).1,zan (h.each i f x hf hx).2 hb⟩,h.apart,h.pair⟩
theorem OFs.set {w:World}{base:Nat}{v:Value}{n:Nat}{fs:List F}{xs:List Value} (h:OFs w base v n fs xs) {p:Addr} (hp:p.block<base) (u:Value):OFs (w.setCell p u) base v n fs xs:=
 h.kept fun g hg=>Below.heap_setCell _ _ _ _ (by have:=(h.range hg).1;omega)
theorem OFs.nil (w:World) (base:Nat):OFs w base (.slice none 0 0) 0 [] []:=
 ⟨rfl,rfl,World.ownsRow_nil _ _ _ _,fun i f x hf=>by simp at hf,fun x hx=>by simp at hx,List.Pairwise.nil⟩
theorem zdZ:∀ (fs:List F) (xs:List Value),xs.length=fs.length→∀ (i:Nat) (f:F) (x:Value),fs[i]?=some f→xs[i]?=some x→∀ j,j<3→(frows fs xs)[i * 3+j]?=(fcells f x)[j]?
 | [],_,_,i,f,x,hf,_,_,_=>by simp at hf
 | g :: fs,[],h,_,_,_,_,_,_,_=>by simp at h
 | g :: fs,y :: xs,h,i,f,x,hf,hx,j,hj=>by
  unfold frows
  rw [List.zip_cons_cons,List.flatMap_cons]
  cases i with
  | zero=>
   simp at hf hx
   subst hf
   subst hx
   rw [List.getElem?_append_left (by simpa [fcells] using hj)]
   simp
  | succ i=>
   rw [List.getElem?_append_right (by simp [fcells];omega)]
   have:=zdZ fs xs (by simpa using h) i f x (by simpa using hf) (by simpa using hx) j hj
   unfold frows at this
   rw [← this]
   congr 1
   simp [fcells]
   omega
theorem zgq (fs:List F) (xs:List Value) (h:xs.length=fs.length) (f:F) (x:Value):frows (fs ++ [f]) (xs ++ [x])=frows fs xs ++ fcells f x:=by
 unfold frows
 rw [List.zip_append h.symm,List.flatMap_append]
 simp
theorem zaV.owns {w:World}{base:Nat}{a:Option Addr}{c:Nat}{vs:List V} (h:w.ownsRow base 109 3 (.slice a vs.length c) vs.length (vs.flatMap V.cells)):zaV w a vs:=by
 intro i v hv
 have hi:i<vs.length:=(List.getElem?_eq_some_iff.1 hv).1
 have key:∀ j x,j<3→v.cells[j]?=some x→(vs.flatMap V.cells)[i * 3+j]?=some x:=by
  intro j x hj hx
  have hlen:i * 3+j<(vs.flatMap V.cells).length:=by rw [zjs];omega
  obtain ⟨u,h1,h2⟩:=zmf vs (i * 3+j) _ (List.getElem?_eq_getElem hlen)
  rw [show (i * 3+j) / 3=i by omega,hv] at h1
  cases h1
  rw [show (i * 3+j) % 3=j by omega,hx] at h2
  rw [List.getElem?_eq_getElem hlen,h2]
 obtain ⟨g,rfl,_,h0,_⟩:=zam h (key 0 _ (by omega) rfl)
 obtain ⟨g1,he1,_,h1,_⟩:=zam h (key 1 _ (by omega) rfl)
 obtain ⟨g2,he2,_,h2,_⟩:=zam h (key 2 _ (by omega) rfl)
 cases he1
 cases he2
 exact ⟨g,0,rfl,by simpa using h0,by simpa using h1,by simpa using h2⟩
theorem OFs.at {w:World}{base:Nat}{a:Option Addr}{n c:Nat}{fs:List F}{xs:List Value} (h:OFs w base (.slice a n c) n fs xs):zaH w a fs:=by
 intro i f hf
 have hi:i<fs.length:=(List.getElem?_eq_some_iff.1 hf).1
 have hx:xs[i]?=some (xs[i]'(by rw [h.len];exact hi)):=List.getElem?_eq_getElem _
 obtain ⟨⟨a',c',e⟩,ho⟩:=h.each i f _ hf hx
 have key:=fun j (hj:j<3)=>zdZ fs xs h.len i f _ hf hx j hj
 obtain ⟨g,rfl,_,h0,_⟩:=zam h.own ((key 0 (by omega)).trans rfl)
 obtain ⟨g1,he1,_,h1,_⟩:=zam h.own ((key 1 (by omega)).trans rfl)
 obtain ⟨g2,he2,_,h2,_⟩:=zam h.own ((key 2 (by omega)).trans rfl)
 cases he1
 cases he2
 rw [e] at h2 ho
 exact ⟨g,0,rfl,by simpa using h0,by simpa using h1,a',c',by simpa using h2,zaV.owns ho⟩
theorem OFs.snoc {w w':World}{base:Nat}{v v':Value}{n:Nat}{fs:List F}{xs:List Value}{f:F}{x:Value} (h:OFs w base v n fs xs) (hx:(∃ a c,x=.slice a f.slots.length c)∧w.ownsRow base 109 3 x f.slots.length (f.slots.flatMap V.cells))
  (hxv:Apart v x) (hxs:∀ y∈xs,Apart y x) (ho:w'.ownsRow base 42 3 v' (n+1) (frows fs xs ++ fcells f x)) (hg:w.grownBy w' v.ownBlock) (hl:v'.ownBlock=v.ownBlock∨v'.ownBlock=some w.heap.size):OFs w' base v' (n+1) (fs ++ [f]) (xs ++ [x]):=by
 have hblk:∀ y:Value,(y∈xs∨y=x)→∀ g,y.ownBlock=some g→g<w.heap.size∧w'.heap[g]?=w.heap[g]?:=by
  intro y hy g hgy
  have hlt:g<w.heap.size:=by
   rcases hy with hy | rfl
   ·exact (h.range (.inr ⟨y,hy,hgy⟩)).2
   ·exact (hx.2.lt g hgy).2
  refine ⟨hlt,hg.block g hlt ?_⟩
  intro e
  rcases hy with hy | rfl
  ·exact h.apart y hy g e.symm hgy
  ·exact hxv g e.symm hgy
 have hapart:∀ y:Value,(y∈xs∨y=x)→Apart v' y:=by
  intro y hy g hgv hgy
  rcases hl with hl | hl
  ·rw [hl] at hgv
   rcases hy with hy | rfl
   ·exact h.apart y hy g hgv hgy
   ·exact hxv g hgv hgy
  ·rw [hl] at hgv
   cases hgv
   have:=(hblk y hy _ hgy).1
   omega
 refine ⟨by simp [h.num],by simp [h.len],by rw [zgq fs xs h.len];exact ho,?_,?_,?_⟩
 ·intro i f' y hf hy
  by_cases hi:i<fs.length
  ·rw [List.getElem?_append_left hi] at hf
   rw [List.getElem?_append_left (by rw [h.len];exact hi)] at hy
   obtain ⟨h1,h2⟩:=h.each i f' y hf hy
   exact ⟨h1,zae h2 (fun g hgy=>(hblk y (.inl (List.mem_of_getElem? hy)) g hgy).2)⟩
  ·have hil:i<(fs ++ [f]).length:=(List.getElem?_eq_some_iff.1 hf).1
   simp at hil
   obtain rfl:i=fs.length:=by omega
   rw [List.getElem?_append_right (Nat.le_refl _)] at hf
   rw [List.getElem?_append_right (by rw [h.len];exact Nat.le_refl _),h.len] at hy
   simp at hf hy
   subst hf
   subst hy
   exact ⟨hx.1,zae hx.2 (fun g hgy=>(hblk x (.inr rfl) g hgy).2)⟩
 ·intro y hy
  rcases List.mem_append.1 hy with hy | hy
  ·exact hapart y (.inl hy)
  ·exact hapart y (.inr (by simpa using hy))
 ·rw [List.pairwise_append]
  exact ⟨h.pair,List.pairwise_singleton _ _,fun y hy z hz=>by
   simp at hz
   subst hz
   exact hxs y hy⟩
def zbV (Z:Nat→Prop) (w:World) (a:Option Addr) (vs:List V):Prop:=
 ∀ (i:Nat) (v:V),vs[i]?=some v→∃ b o,Z b∧a=some ⟨b,o,none⟩∧w.cell? ⟨b,o+i * 3,none⟩=some (.int .i64 v.kind) ∧
  w.cell? ⟨b,o+i * 3+1,none⟩=some (.int .i64 v.num)∧w.cell? ⟨b,o+i * 3+2,none⟩=some (.string v.sym)
def zcc (Z:Nat→Prop) (w:World) (a:Option Addr) (fs:List F):Prop:=
 ∀ (i:Nat) (f:F),fs[i]?=some f→∃ b o,Z b∧a=some ⟨b,o,none⟩∧w.cell? ⟨b,o+i * 3,none⟩=some (.int .i64 f.tag) ∧
  w.cell? ⟨b,o+i * 3+1,none⟩=some (.string f.cls)∧∃ a' c,w.cell? ⟨b,o+i * 3+2,none⟩=some (.slice a' f.slots.length c)∧zbV Z w a' f.slots
theorem zbV.at {Z:Nat→Prop}{w:World}{a:Option Addr}{vs:List V} (h:zbV Z w a vs):zaV w a vs:=fun i v hv=>by
 obtain ⟨b,o,_,h⟩:=h i v hv
 exact ⟨b,o,h⟩
theorem zcc.at {Z:Nat→Prop}{w:World}{a:Option Addr}{fs:List F} (h:zcc Z w a fs):zaH w a fs:=fun i f hf=>by
 obtain ⟨b,o,_,h1,h2,h3,a',c,h4,h5⟩:=h i f hf
 exact ⟨b,o,h1,h2,h3,a',c,h4,h5.at⟩
theorem zdz {w w':World}{b o:Nat}{x:Value} (hk:w'.heap[b]?=w.heap[b]?) (h:w.cell? ⟨b,o,none⟩=some x):w'.cell? ⟨b,o,none⟩=some x:=by
 rw [← h]
 exact World.cell?_of_block (a:=⟨b,o,none⟩) hk
theorem zbV.kept {Z:Nat→Prop}{w w':World}{a:Option Addr}{vs:List V} (h:zbV Z w a vs) (hk:∀ b,Z b→b<w.heap.size→w'.heap[b]?=w.heap[b]?):zbV Z w' a vs:=fun i v hv=>by
 obtain ⟨b,o,hz,h1,h2,h3,h4⟩:=h i v hv
 have:=hk b hz (World.block_lt_of_cell? w ⟨b,_,none⟩ h2)
 exact ⟨b,o,hz,h1,zdz this h2,zdz this h3,zdz this h4⟩
theorem zcc.kept {Z:Nat→Prop}{w w':World}{a:Option Addr}{fs:List F} (h:zcc Z w a fs) (hk:∀ b,Z b→b<w.heap.size→w'.heap[b]?=w.heap[b]?):zcc Z w' a fs:=fun i f hf=>by
 obtain ⟨b,o,hz,h1,h2,h3,a',c,h4,h5⟩:=h i f hf
 have:=hk b hz (World.block_lt_of_cell? w ⟨b,_,none⟩ h2)
 exact ⟨b,o,hz,h1,zdz this h2,zdz this h3,a',c,zdz this h4,h5.kept hk⟩
theorem zbV.mono {Z Z':Nat→Prop}{w:World}{a:Option Addr}{vs:List V} (h:zbV Z w a vs) (hz:∀ b,Z b→Z' b):zbV Z' w a vs:=fun i v hv=>by
 obtain ⟨b,o,h0,h⟩:=h i v hv
 exact ⟨b,o,hz b h0,h⟩
theorem zcc.mono {Z Z':Nat→Prop}{w:World}{a:Option Addr}{fs:List F} (h:zcc Z w a fs) (hz:∀ b,Z b→Z' b):zcc Z' w a fs:=fun i f hf=>by
 obtain ⟨b,o,h0,h1,h2,h3,a',c,h4,h5⟩:=h i f hf
 exact ⟨b,o,hz b h0,h1,h2,h3,a',c,h4,h5.mono hz⟩
theorem zaV.on {w:World}{a:Option Addr}{vs:List V} (h:zaV w a vs):zbV (fun b=>b<w.heap.size) w a vs:=fun i v hv=>by
 obtain ⟨b,o,h1,h2,h3⟩:=h i v hv
 exact ⟨b,o,World.block_lt_of_cell? w ⟨b,_,none⟩ h2,h1,h2,h3⟩
theorem zaH.on {w:World}{a:Option Addr}{fs:List F} (h:zaH w a fs):zcc (fun b=>b<w.heap.size) w a fs:=fun i f hf=>by
 obtain ⟨b,o,h1,h2,h3,a',c,h4,h5⟩:=h i f hf
 exact ⟨b,o,World.block_lt_of_cell? w ⟨b,_,none⟩ h2,h1,h2,h3,a',c,h4,h5.on⟩
theorem zbV.owns {w:World}{base:Nat}{a:Option Addr}{c:Nat}{vs:List V} (h:w.ownsRow base 109 3 (.slice a vs.length c) vs.length (vs.flatMap V.cells)):zbV (fun b=>base≤b∧b<w.heap.size) w a vs:=fun i v hv=>by
 obtain ⟨b,o,rfl,h2,h3⟩:=zaV.owns h i v hv
 exact ⟨b,o,h.lt b rfl,rfl,h2,h3⟩
theorem OFs.on {w:World}{base:Nat}{a:Option Addr}{n c:Nat}{fs:List F}{xs:List Value} (h:OFs w base (.slice a n c) n fs xs):zcc (fun b=>base≤b∧b<w.heap.size) w a fs:=by
 intro i f hf
 have hi:i<fs.length:=(List.getElem?_eq_some_iff.1 hf).1
 have hx:xs[i]?=some (xs[i]'(by rw [h.len];exact hi)):=List.getElem?_eq_getElem _
 obtain ⟨⟨a',c',e⟩,ho⟩:=h.each i f _ hf hx
 have key:=fun j (hj:j<3)=>zdZ fs xs h.len i f _ hf hx j hj
 obtain ⟨g,rfl,hg,h0,_⟩:=zam h.own ((key 0 (by omega)).trans rfl)
 obtain ⟨g1,he1,_,h1,_⟩:=zam h.own ((key 1 (by omega)).trans rfl)
 obtain ⟨g2,he2,_,h2,_⟩:=zam h.own ((key 2 (by omega)).trans rfl)
 cases he1
 cases he2
 rw [e] at h2 ho
 exact ⟨g,0,h.own.lt g rfl,rfl,by simpa using h0,by simpa using h1,a',c',by simpa using h2,zbV.owns ho⟩
end Go.Proofs.YtmmdlgjmplddiaaGreat
namespace Go.Proofs.YtmmdlgjmplddiaaGreat
open Go.RowKit
attribute [local go_sem ↓] Go.wp_at_zero Go.wp_at_succ
theorem hidO {p:Prop} (h:p):Hid p:=h
theorem zg3 {B n:Nat}{a w:World} (h:Below B a w):Below B a (w.drewN n):=⟨h.os,h.tape,h.output,h.size,h.block⟩
def tmOp (t:Tm):Int:=if t.kind==3 then t.op else 1
def ze8 (name:ByteArray) (t:Tm):Bool:=t.kind==2 && (t.var.toList==name.toList)
def za6 (name:ByteArray):List Tm→Nat→Option Nat
 | [],_=>none
 | t :: r,k=>if ze8 name t then some k else za6 name r (k+1)
def earlier (ts:List Tm) (i:Nat) (name:ByteArray):Option Nat:=za6 name (ts.take i) 0
def atI:Option Nat→Int
 | none=>-1
 | some k=>(k:Int)
def zVa:V:=(0,0,⟨#[]⟩)
def zbz (ts:List Tm) (i:Nat) (t:Tm):Option Tt:=
 if t.kind==0 then none
 else if t.var.toList.isEmpty then some ⟨(i:Int),tmOp t, -1,t.val⟩
 else match earlier ts i t.var with
  | none=>none
  | some k=>some ⟨(i:Int),tmOp t,(k:Int),zVa⟩
def zah (ts:List Tm):Nat→List Tt
 | 0=>[]
 | i+1=>zah ts i ++ (match ts[i]? with | none=>[] | some t=>(zbz ts i t).toList)
def zaE (p:Pt):Al:=if gPt p then ⟨p.cls,(p.terms.length:Int),zah p.terms p.terms.length⟩ else ⟨⟨#[]⟩,0,[]⟩
theorem zbi (name:ByteArray) (t:Tm) (r:List Tm) (k:Nat):za6 name (t :: r) k=if ze8 name t then some k else za6 name r (k+1):=rfl
set_option maxHeartbeats 400000 in
theorem zeC (t:Tm) (w:World) :
  Calls Tryz.prog 105 #[.agg #[.int .i64 t.kind,.int .i64 t.op,.string t.var,.int .i64 t.val.kind,.int .i64 t.val.num,.string t.val.sym]] w fun e w'=>e=.returned (.int .i64 (tmOp t))∧Below w.heap.size w w':=by
 by_cases h3:t.kind=3
 ·rw [h3]
  go_enter Tryz.func105,Tryz.ntmps105
  go_wp2
  go_ret
  exact ⟨by simp [tmOp,h3],(Below.refl _ _).alloc (Nat.le_refl _) _⟩
 ·go_enter Tryz.func105,Tryz.ntmps105
  go_wp2
  go_ret
  exact ⟨by simp [tmOp,h3],(Below.refl _ _).alloc (Nat.le_refl _) _⟩
set_option maxHeartbeats 1600000 in
theorem zis (p:Pt) (a_terms:Option Addr) (c_terms:Nat) {q:Option Nat} (i:Nat) (ti:Tm) (w:World) (h_terms:zcl q w a_terms p.terms) (hi:p.terms[i]?=some ti) (hl:p.terms.length≤1048576) (hcp:p.terms.length≤c_terms) :
  Calls Tryz.prog 104 #[.agg #[.bool p.neg,.string p.cls,.slice a_terms p.terms.length c_terms],.int .i64 (i:Int)] w fun e w'=>e=.returned (.int .i64 (atI (earlier p.terms i ti.var)))∧Below w.heap.size w w':=by
 have B0:∀ o,Below w.heap.size w (w.alloc o):=fun o=>(Below.refl _ _).alloc (Nat.le_refl _) _
 have hil:i<p.terms.length:=(List.getElem?_eq_some_iff.1 hi).1
 have hlen:(p.terms.take i).length=i:=by simp;omega
 have y0:(0:Int)≤(i:Int):=by omega
 have y1:(i:Int)≤(c_terms:Int):=by omega
 have y2:(i:Int)<(p.terms.length:Int):=by omega
 obtain ⟨bi,oi,ei,_,i0,i1,i2,i3,i4,i5⟩:=h_terms.get hi
 subst ei
 have HI2:=hidO i2
 clear i0 i1 i2 i3 i4 i5
 go_enter Tryz.func104,Tryz.ntmps104
 go_wp2
 go_loopw [12] (fun v wr=>∃ (k:Nat),k≤i∧v=.int .i64 k∧earlier p.terms i ti.var=za6 ti.var ((p.terms.take i).drop k) k∧wr.cell? ⟨w.heap.size,2,none⟩=some (.slice (some ⟨bi,oi,none⟩) p.terms.length c_terms)∧Below w.heap.size w wr) (fun v _=>i - (intOf v).toNat)
 case atStart=>exact ⟨0,by omega,rfl,rfl,by simp [go_sem],B0 _⟩
 case round=>
  obtain ⟨k,hk,rfl,hG,hc2,hb⟩:=hrel
  have HG:=hidO hG
  clear hG
  by_cases hkl:k<i
  ·obtain ⟨t,htk⟩:∃ t,p.terms[k]?=some t:=⟨p.terms[k]'(by omega),by simp⟩
   have htk':(p.terms.take i)[k]?=some t:=by rw [List.getElem?_take,if_pos hkl,htk]
   have HD:Hid ((p.terms.take i).drop k=t :: (p.terms.take i).drop (k+1)):=zak htk'
   obtain ⟨b,o,ea,hq,c0,c1,c2,c3,c4,c5⟩:=(h_terms.below hb).get htk
   cases ea
   have R1:∀ o,Below wr.heap.size wr (wr.alloc o):=fun o=>(Below.refl _ _).alloc (Nat.le_refl _) _
   have z0:(0:Int)≤(k:Int):=by omega
   have z1:(k:Int)<(i:Int):=by omega
   have hc2':=fun o=>zaa (R1 o) hc2
   have hi2':=fun o=>zaa (R1 o) (zaa hb HI2.out)
   by_cases k2:t.kind=2
   ·rw [k2] at c0
    have hk2:((2:Int)==2)=true:=rfl
    cases hn:(t.var.toList==ti.var.toList)
    all_goals
     go_wp2
     go_quiet (fail)
     go_wp2
    ·have HX:Hid (earlier p.terms i ti.var=za6 ti.var ((p.terms.take i).drop (k+1)) (k+1)):=show earlier p.terms i ti.var=_ from by rw [HG.out,HD.out,zbi];simp [ze8,hn]
     go_roundw
     case rel=>exact ⟨k+1,by omega,by go_num,HX.out,hc2' _,zg3 (hb.alloc hb.size _)⟩
     case measure=>simp [intOf];omega
    ·have HX:Hid (earlier p.terms i ti.var=some k):=show earlier p.terms i ti.var=_ from by rw [HG.out,HD.out,zbi];simp [ze8,k2,hn]
     go_ret
     exact ⟨zbk (by rw [HX.out];rfl),zg3 (hb.alloc hb.size _)⟩
   ·have HX:Hid (earlier p.terms i ti.var=za6 ti.var ((p.terms.take i).drop (k+1)) (k+1)):=show earlier p.terms i ti.var=_ from by rw [HG.out,HD.out,zbi];simp [ze8,k2]
    have hk2:(t.kind==2)=false:=by simpa using k2
    go_wp2
    go_quiet (fail)
    go_wp2
    go_roundw
    case rel=>exact ⟨k+1,by omega,by go_num,HX.out,hc2' _,zg3 (hb.alloc hb.size _)⟩
    case measure=>simp [intOf];omega
  ·have z1:¬ (k:Int)<(i:Int):=by omega
   go_wp2
   go_ret
   exact ⟨zbk (by rw [HG.out,List.drop_eq_nil_of_le (by omega)];rfl),hb⟩
end Go.Proofs.YtmmdlgjmplddiaaGreat
namespace Go.Proofs.YtmmdlgjmplddiaaGreat
open Go.RowKit
def zat (t:Tt):List Value:=[.int .i64 t.slot,.int .i64 t.op,.int .i64 t.other,.int .i64 t.val.kind,.int .i64 t.val.num,.string t.val.sym]
theorem zc0:∀ S:List Tt,(S.flatMap zat).length=S.length * 6
 | []=>rfl
 | s :: r=>by rw [List.flatMap_cons,List.length_append,zc0 r];simp [zat];omega
theorem zfh:∀ (S:List Tt) (i:Nat) (s:Tt) (j:Nat) (v:Value),S[i]?=some s→(zat s)[j]?=some v→(S.flatMap zat)[i * 6+j]?=some v
 | [],i,s,j,v,h,_=>by simp at h
 | x :: r,0,s,j,v,h,hj=>by
  simp at h
  subst h
  have hl:j<(zat x).length:=(List.getElem?_eq_some_iff.1 hj).1
  rw [List.flatMap_cons,List.getElem?_append_left (by omega)]
  simpa using hj
 | x :: r,i+1,s,j,v,h,hj=>by
  have:=zfh r i s j v (by simpa using h) hj
  rw [List.flatMap_cons,List.getElem?_append_right (by simp [zat];omega),show (i+1) * 6+j - (zat x).length=i * 6+j by simp [zat];omega]
  exact this
theorem zcp.owns {w:World}{base n:Nat}{a:Option Addr}{c:Nat}{S:List Tt} (h:w.ownsRow base 111 6 (.slice a n c) n (S.flatMap zat)):zcp none w a S:=by
 intro i s hs
 obtain ⟨g,rfl,_,_,_⟩:=zam h (zfh S i s 0 _ hs rfl)
 refine ⟨g,0,zat s,rfl,Qb.bare _ _ _,rfl,?_,rfl⟩
 intro j v hj
 obtain ⟨g',hg',_,hc,_⟩:=zam h (zfh S i s j v hs hj)
 cases hg'
 rwa [Nat.zero_add]
theorem zbP (s:Tt):∀ u∈zat s,u.oneCell'=true:=by
 intro u hu
 simp [zat] at hu
 rcases hu with rfl | rfl | rfl | rfl | rfl | rfl <;> rfl
theorem zep:(Tryz.prog.info? 111).map (fun i=>(i.zero,i.size,i.bytes))=some (some (.agg #[.int .i64 0,.int .i64 0,.int .i64 0,.int .i64 0,.int .i64 0,.string ⟨#[]⟩]),6,56):=by kernel_rfl
def C3 (w:World) (b:Nat) (x0 x1 x2:Value):Prop:=w.cell? ⟨b,0,none⟩=some x0∧w.cell? ⟨b,1,none⟩=some x1∧w.cell? ⟨b,2,none⟩=some x2∧w.frozen? ⟨b,0,none⟩=false∧w.frozen? ⟨b,1,none⟩=false∧w.frozen? ⟨b,2,none⟩=false
theorem C3.belowB {w w':World}{b B:Nat}{x0 x1 x2:Value} (h:C3 w b x0 x1 x2) (hb:Below B w w') (hB:b<B):C3 w' b x0 x1 x2:=by
 obtain ⟨h0,h1,h2,g0,g1,g2⟩:=h
 have hk:=hb.block b hB
 refine ⟨?_,?_,?_,?_,?_,?_⟩ <;> simp only [World.cell?,World.frozen?,hk] <;> assumption
theorem C3.lt {w:World}{b:Nat}{x0 x1 x2:Value} (h:C3 w b x0 x1 x2):b<w.heap.size:=by
 by_cases hp:b<w.heap.size
 ·exact hp
 ·have:w.heap[b]?=none:=Array.getElem?_eq_none (by omega)
  have h0:=h.1
  simp [World.cell?,this] at h0
theorem C3.below {w w':World}{b:Nat}{x0 x1 x2:Value} (h:C3 w b x0 x1 x2) (hb:Below w.heap.size w w'):C3 w' b x0 x1 x2:=h.belowB hb h.lt
theorem C3.made (w:World) (t:TypeId) (x0 x1 x2:Value):C3 (w.alloc (.cells #[x0,x1,x2] t)) w.heap.size x0 x1 x2:=by
 refine ⟨?_,?_,?_,?_,?_,?_⟩ <;> simp [go_sem]
theorem C3.set2 {w:World}{b:Nat}{x0 x1 x2:Value} (h:C3 w b x0 x1 x2) (y:Value):C3 (w.setCell ⟨b,2,none⟩ y) b x0 x1 y:=by
 have hl:=h.lt
 obtain ⟨h0,h1,h2,g0,g1,g2⟩:=h
 refine ⟨?_,?_,?_,?_,?_,?_⟩ <;> simp [go_sem, *]
theorem zeM {w w':World}{base:Nat}{t:TypeId}{m:Nat}{v:Value}{n:Nat}{xs:List Value} (h:w.ownsRow base t m v n xs) (hb:Below w.heap.size w w'):w'.ownsRow base t m v n xs:=
 zae h (fun g hg=>hb.block g (h.lt g hg).2)
theorem zge {w1 wr w3:World}{B:Nat}{x0 x1 v:Value}{t:TypeId}{a3:Option Addr}{m c3:Nat}{xs:List Value} (hout:C3 wr B x0 x1 v) (hW3:Below (B+1) wr w3) (ho3:w3.ownsRow (B+1) t 6 (.slice a3 m c3) m xs) (hb:Below B w1 wr) :
  C3 (w3.setCell ⟨B,2,none⟩ (.slice a3 m c3)) B x0 x1 (.slice a3 m c3)∧(w3.setCell ⟨B,2,none⟩ (.slice a3 m c3)).ownsRow (B+1) t 6 (.slice a3 m c3) m xs∧Below B w1 (w3.setCell ⟨B,2,none⟩ (.slice a3 m c3)):=by
 refine ⟨(hout.belowB hW3 (by omega)).set2 _,zae ho3 (fun g hg=>?_),(hb.trans (hW3.mono (by omega))).setCell (by simp) _⟩
 have:=(ho3.lt g hg).1
 exact Below.heap_setCell _ _ _ _ (by simp;omega)
theorem zcd (w:World) (L:List Value) (t:TypeId) (b:Nat) (hb:b=w.heap.size) (ad:Addr) (e:some (⟨b,0,none⟩:Addr)=some ad) (j:Nat) (u:Value) (h:L[j]?=some u):(w.alloc (.cells L.toArray t)).cell? (ad.add j)=some u:=by
 subst hb
 cases e
 rw [Addr.add_mid,Nat.zero_add]
 have hb:=heap_alloc_new w (.cells L.toArray t)
 simp only [World.cell?,hb]
 simpa using h
theorem zfR {s:ByteArray} (h:s.toList.isEmpty=true):s=⟨#[]⟩:=by
 have h1:(s.toList==(⟨#[]⟩:ByteArray).toList)=true:=by
  have:s.toList=[]:=by simpa using h
  rw [this,show (⟨#[]⟩:ByteArray).toList=[] by decide +kernel]
  rfl
 rw [zaL] at h1
 simpa using h1
theorem zj0 {v:V} (h:za1 v=true):v=zVa:=by
 simp only [za1,isE,Bool.and_eq_true,beq_iff_eq] at h
 obtain ⟨h0,h1,h2⟩:=h
 have h3:=zfR h2
 exact Prod.ext h0 (Prod.ext h1 h3)
theorem zm7 {t:Tm} (h:gTm t=true) (hv:t.var.toList.isEmpty=false):t.val=zVa:=by
 have hE:isE t.var=false:=hv
 unfold gTm zcm at h
 rw [hE] at h
 split at h
 ·simp at h
 ·split at h
  ·simp at h
  ·split at h
   ·simp only [Bool.and_eq_true] at h
    exact zj0 h.2.2
   ·split at h
    ·simp only [Bool.false_and,Bool.false_or,Bool.and_eq_true] at h
     exact zj0 h.2.2.2
    ·cases h
theorem zk6 {p:Pt} (h:gPt p=true) {i:Nat}{t:Tm} (ht:p.terms[i]?=some t):gTm t=true:=by
 simp only [gPt,Bool.and_eq_true] at h
 exact List.all_eq_true.1 h.2.2 t (List.mem_of_getElem? ht)
theorem zi8 {p:Pt} (h:gPt p=true):p.terms.length≤6:=by
 simp only [gPt,Bool.and_eq_true,decide_eq_true_eq] at h
 exact h.2.1
theorem zkc {ts:List Tm}{k:Nat}{t:Tm} (h:ts[k]?=some t):zah ts (k+1)=zah ts k ++ (zbz ts k t).toList:=by
 simp [zah,h]
theorem zec (ts:List Tm):∀ k,(zah ts k).length≤k
 | 0=>Nat.le_refl _
 | k+1=>by
  have:=zec ts k
  unfold zah
  rw [List.length_append]
  cases ts[k]? with
  | none=>simp;omega
  | some t=>cases h:zbz ts k t <;> simp [h] <;> omega
end Go.Proofs.YtmmdlgjmplddiaaGreat
