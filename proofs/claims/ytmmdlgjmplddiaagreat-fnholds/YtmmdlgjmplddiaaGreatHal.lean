/-
  OUR OWN TEXT. Sp8, Md0, Vm, Dw12, TyA0, Ao1, one behind the other.
-/
import Derived.Test.YtmmdlgjmplddiaaGreatPutm
import Derived.Test.YtmmdlgjmplddiaaGreatHah
import Derived.Test.YtmmdlgjmplddiaaGreatHaa
import Derived.Test.YtmmdlgjmplddiaaGreatHab
import Derived.Deep.DrawnRows
import Derived.BigQuiet
namespace Go.Proofs.YtmmdlgjmplddiaaGreat
open Go.RowKit
attribute [local go_sem ↓] Go.wp_at_zero Go.wp_at_succ
def asOk (fs:List F) (nx cp:Int) (sg:Bool) (cls:ByteArray) (vs:List V):C6:=
 if 0<zda sg 0 cls vs fs then ⟨fs,nx,cp,sg,2,zda sg 0 cls vs fs⟩ else if (fs.length:Int)=cp then ⟨fs,nx,cp,sg,3,0⟩ else if 1000000<nx then ⟨fs,nx,cp,sg,4,0⟩ else ⟨fs ++ [⟨nx,cls,vs⟩],nx+1,cp,sg,0,nx⟩
def asrt (fs:List F) (nx cp:Int) (sg:Bool) (cls:ByteArray) (vs:List V):C6:=
 if zbw fs nx cp sg && (gSym cls.data.toList && zbp vs) then asOk fs nx cp sg cls vs else C6.bad
theorem zlJ {fs:List F}{nx cp:Int}{sg:Bool}{cls:ByteArray}{vs:List V} (h:(zbw fs nx cp sg && (gSym cls.data.toList && zbp vs))=false):asrt fs nx cp sg cls vs=C6.bad:=by unfold asrt;rw [h];rfl
theorem zll {fs:List F}{nx cp:Int}{sg:Bool}{cls:ByteArray}{vs:List V} (h1:zbw fs nx cp sg=true) (h2:gSym cls.data.toList=true) (h3:zbp vs=true):asrt fs nx cp sg cls vs=asOk fs nx cp sg cls vs:=by unfold asrt;rw [h1,h2,h3];rfl
theorem zio {fs:List F}{nx cp:Int}{sg:Bool} (h:zbw fs nx cp sg=true):0≤cp∧cp≤40∧(fs.length:Int)≤cp∧1≤nx∧nx≤1000001:=by
 simp only [zbw,zeE,Bool.and_eq_true,decide_eq_true_eq] at h
 omega
set_option maxRecDepth 100000 in
set_option maxHeartbeats 1600000 in
theorem zm0 (a:Option Addr) (c:Nat) (fs:List F) (nx cp:Int) (sg:Bool) (cls:ByteArray) (sa:Option Addr) (sc:Nat) (vs:List V) (w:World) (hv:zaG w a fs) (hsv:zaY w sa vs) (hc:fs.length≤c) (hl:fs.length≤1048576) (hs:∀ f∈fs,Sized f) (hcs:cls.size≤maxLen) (hvl:vs.length≤1048576) (hvs:∀ v∈vs,v.sym.size≤maxLen) (hbad:(zbw fs nx cp sg && (gSym cls.data.toList && zbp vs))=false) :
  Calls Tryz.prog 51 #[.agg #[.slice a fs.length c,.int .i64 nx,.int .i64 cp,.bool sg],.string cls,.slice sa vs.length sc] w fun e w'=>
   (∃ a' c',e=.returned (C6.bad.val a' c')∧zaG w' a' C6.bad.fs∧C6.bad.fs.length≤c')∧Below w.heap.size w w':=by
 have B2:∀ o o',Below w.heap.size w ((w.alloc o).alloc o'):=fun o o'=>((Below.refl _ _).alloc (Nat.le_refl _) _).alloc (by simp) _
 cases hva:zbw fs nx cp sg
 ·clear hbad
  go_enter Tryz.func51,Tryz.ntmps51
  go_wp2_with (go_at_call 86;refine (zb8 a c fs nx cp sg _ (hv.below (B2 _ _)) hc hl hs).mono ?_;rintro e w1 ⟨rfl,hb1⟩;obtain ⟨hc1,hf1⟩:=bcell hb1)
  refine bodyPost_ret (v:=C6.bad.val none 0) (by simp [results,Tryz.results51,go_sem,hc1,C6.val,C6.bad]) rfl ⟨⟨none,0,rfl,fun i f hf=>by simp [C6.bad] at hf,Nat.zero_le _⟩,?_⟩
  have hB:Below w.heap.size w w1:=(B2 _ _).trans (hb1.mono (by simp;omega))
  exact (((((hB.setCell (by simp) _).setCell (by simp) _).setCell (by simp) _).setCell (by simp) _).setCell (by simp) _).setCell (by simp) _
 ·rw [hva,Bool.true_and] at hbad
  cases hgs:gSym cls.data.toList
  ·clear hbad
   go_enter Tryz.func51,Tryz.ntmps51
   go_wp2_with (first | (go_at_call 86;refine (zb8 a c fs nx cp sg _ (hv.below (B2 _ _)) hc hl hs).mono ?_;rintro e w1 ⟨rfl,hb1⟩;obtain ⟨hc1,hf1⟩:=bcell hb1) | (go_at_call 87;refine (zaH cls _ hcs).mono ?_;rintro e w' ⟨rfl,rfl⟩) | fail)
   refine bodyPost_ret (v:=C6.bad.val none 0) (by simp [results,Tryz.results51,go_sem,hc1,C6.val,C6.bad]) rfl ⟨⟨none,0,rfl,fun i f hf=>by simp [C6.bad] at hf,Nat.zero_le _⟩,?_⟩
   have hB:Below w.heap.size w _:=(B2 _ _).trans (hb1.mono (by simp;omega))
   exact (((((hB.setCell (by simp) _).setCell (by simp) _).setCell (by simp) _).setCell (by simp) _).setCell (by simp) _).setCell (by simp) _
  ·rw [hgs,Bool.true_and] at hbad
   go_enter Tryz.func51,Tryz.ntmps51
   go_wp2_with (first | (go_at_call 86;refine (zb8 a c fs nx cp sg _ (hv.below (B2 _ _)) hc hl hs).mono ?_;rintro e w1 ⟨rfl,hb1⟩;obtain ⟨hc1,hf1⟩:=bcell hb1;have hB1:Below w.heap.size w w1:=((B2 _ _).trans (hb1.mono (by simp;omega)));have hz1:w.heap.size+1<w1.heap.size:=Nat.lt_of_lt_of_le (by simp) hb1.size) | (go_at_call 87;refine (zaH cls _ hcs).mono ?_;rintro e w' ⟨rfl,rfl⟩) | (go_at_call 88;refine (zb4 sa sc vs _ (hsv.below hB1) hvl hvs).mono ?_;rintro e w2 ⟨rfl,hb2⟩;obtain ⟨hc2,hf2⟩:=bcell hb2) | fail)
   refine bodyPost_ret (v:=C6.bad.val none 0) (by simp [results,Tryz.results51,go_sem,hc1,hc2,hz1,C6.val,C6.bad]) rfl ⟨⟨none,0,rfl,fun i f hf=>by simp [C6.bad] at hf,Nat.zero_le _⟩,?_⟩
   have hB:Below w.heap.size w w2:=hB1.trans (hb2.mono hB1.size)
   exact (((((hB.setCell (by simp) _).setCell (by simp) _).setCell (by simp) _).setCell (by simp) _).setCell (by simp) _).setCell (by simp) _
set_option maxRecDepth 100000 in
set_option maxHeartbeats 3200000 in
theorem zj2 (a:Option Addr) (c:Nat) (fs:List F) (nx cp:Int) (sg:Bool) (cls:ByteArray) (sa:Option Addr) (sc:Nat) (vs:List V) (w:World) (hv:zaG w a fs) (hsv:zaY w sa vs) (hc:fs.length≤c) (hl:fs.length≤1048576) (hs:∀ f∈fs,Sized f) (hcs:cls.size≤maxLen) (hvl:vs.length≤1048576) (hvs:∀ v∈vs,v.sym.size≤maxLen) (hva:zbw fs nx cp sg=true) (hgs:gSym cls.data.toList=true) (hgv:zbp vs=true) :
  Calls Tryz.prog 51 #[.agg #[.slice a fs.length c,.int .i64 nx,.int .i64 cp,.bool sg],.string cls,.slice sa vs.length sc] w fun e w'=>
   (∃ a' c',e=.returned ((asOk fs nx cp sg cls vs).val a' c')∧zaG w' a' (asOk fs nx cp sg cls vs).fs∧(asOk fs nx cp sg cls vs).fs.length≤c')∧Below w.heap.size w w':=by
 have B2:∀ o o',Below w.heap.size w ((w.alloc o).alloc o'):=fun o o'=>((Below.refl _ _).alloc (Nat.le_refl _) _).alloc (by simp) _
 have hsl:∀ f∈fs,f.slots.length≤1048576:=fun f hf=>(hs f hf).2.1
 obtain ⟨n1,n2,n3,n4,n5⟩:=zio hva
 go_enter Tryz.func51,Tryz.ntmps51
 go_wp2_with (first | (go_at_call 86;refine (zb8 a c fs nx cp sg _ (hv.below (B2 _ _)) hc hl hs).mono ?_;rintro e w0 ⟨rfl,hb0⟩;obtain ⟨hc0,hf0⟩:=bcell hb0;have hB0:Below w.heap.size w w0:=((B2 _ _).trans (hb0.mono (by simp;omega)));have hz0:w.heap.size+1<w0.heap.size:=Nat.lt_of_lt_of_le (by simp) hb0.size;have hz0':w.heap.size<w0.heap.size:=(by omega)) | (go_at_call 87;refine (zaH cls _ hcs).mono ?_;rintro e w' ⟨rfl,rfl⟩) | (go_at_call 88;refine (zb4 sa sc vs _ (hsv.below hB0) hvl hvs).mono ?_;rintro e w1 ⟨rfl,hb1⟩;obtain ⟨hc1,hf1⟩:=bcell hb1) | fail)
 have hB1:Below w.heap.size w w1:=hB0.trans (hb1.mono hB0.size)
 have hz1:w.heap.size+1<w1.heap.size:=Nat.lt_of_lt_of_le hz0 hb1.size
 obtain ⟨R,hR,hRs⟩:∃ R:Array Value,w1.heap[w.heap.size+1]?=some (.cells R 132 (0,0))∧R.size=6:=⟨_,(hb1.block _ hz0).trans ((hb0.block _ (by simp)).trans (zix _ _ _ (by simp))),rfl⟩
 have HA1:w1.heap[w.heap.size]?=some (.cells (stC a fs.length c nx cp sg).toArray 26 (0,0)):=(hb1.block _ hz0').trans ((hb0.block _ (by simp;omega)).trans ((Below.heap_alloc _ _ _ (by simp)).trans (zix _ _ _ rfl)))
 clear hc0 hf0 hc1 hf1
 refine (zjU a c fs nx cp sg w1 (hv.below hB1) hl hsl).mono ?_
 rintro e w2 ⟨⟨a2,c2,xs2,rfl,ho2⟩,hb2⟩
 have HA2:=hidden' (zdn HA1 hb2)
 have HR2:=hidden' (zdn hR hb2)
 have hB2:Below w.heap.size w w2:=hB1.trans (hb2.mono hB1.size)
 have hz2:=hb2.size
 clear HA1 hR
 go_wp2_with (first | (refine zak (by rfl) 26 (.tmp 7) (.tmp 24) (by rfl) w2.heap.size (stC a2 fs.length c2 nx cp sg) (by rfl) (by rfl) _ 26 (zix _ _ _ rfl) (by rfl) zms (znb _ _ _ _ _ _) ?_;intro w2' hh2 ht2;have HA2':=hidden' (zkl HA2.out ht2.out)) | (refine zdr (by rfl) 26 (.tmp 3) (by rfl) w.heap.size (stC a fs.length c nx cp sg) (by rfl) 26 (0,0) HA2'.out _ Tryz.underlying26 (by rfl) zms ?_) | fail)
 have hn2:=zkV ht2.out
 have hz2':=zlQ ht2.out
 have hB2':Below w.heap.size w w2':=hB2.trans (hn2.mono hB2.size)
 have HR2':=hidden' (zkl HR2.out ht2.out)
 have HO2':=hidden' (ho2.below hn2)
 clear ht2 HA2 HR2 ho2 hn2
 refine (zin a c fs nx cp sg 0 cls sa sc vs w2' (hv.below hB2') (hsv.below hB2') hl hsl).mono ?_
 rintro e w3 ⟨rfl,hb3⟩
 have HA3:=hidden' (zdn HA2'.out hb3)
 have HC3:=hidden' (zdn hh2.out hb3)
 have HR3:=hidden' (zdn HR2'.out hb3)
 have HO3:=hidden' (HO2'.out.below hb3)
 have hB3:Below w.heap.size w w3:=hB2'.trans (hb3.mono hB2'.size)
 have hz3:=hb3.size
 have hsv3:=hsv.below hB3
 obtain ⟨q0,q1,q2,q3⟩:=ziV HA3.out
 obtain ⟨p0,p1,p2,p3⟩:=ziV HC3.out
 clear HA2' HR2' HO2' hh2 hb3 hv hsv hs
 generalize hT:zda sg 0 cls vs fs=T
 by_cases ht:0<T
 ·have HE:=hidden' (show asOk fs nx cp sg cls vs=⟨fs,nx,cp,sg,2,T⟩ by unfold asOk;rw [hT,if_pos ht])
  clear hT
  go_wp2_with (first | (refine zak (by rfl) 132 (.tmp 6) (.tmp 34) (by rfl) (w.heap.size+1) (C6.cells ⟨fs,nx,cp,sg,2,T⟩ a2 c2) (by rfl) (by rfl) R 132 HR3.out hRs zlp (C6.one _ _ _) ?_;intro w4 hh4 ht4) | fail)
  try go_frame
  refine bodyPost_ret (v:=C6.val ⟨fs,nx,cp,sg,2,T⟩ a2 c2) (by simp [results,Tryz.results51,asAddr,C6.load hh4.out]) rfl ?_
  rw [HE.out]
  exact ⟨⟨a2,c2,rfl,(HO3.out.kept (fun g hg=>ht4.out.block g (by have:=(HO3.out.range hg).1;omega))).at,zdD HO3.out.own⟩,hB3.trans (ht4.out.below (by omega))⟩
 ·by_cases hfull:(fs.length:Int)=cp
  ·have HE:=hidden' (show asOk fs nx cp sg cls vs=⟨fs,nx,cp,sg,3,0⟩ by unfold asOk;rw [hT,if_neg ht,if_pos hfull])
   have hfb:((fs.length:Int)==cp)=true:=by simpa using hfull
   clear hT
   go_wp2_with (first | (refine zak (by rfl) 132 (.tmp 6) (.tmp 43) (by rfl) (w.heap.size+1) (C6.cells ⟨fs,nx,cp,sg,3,0⟩ a2 c2) (by rfl) (by rfl) R 132 HR3.out hRs zlp (C6.one _ _ _) ?_;intro w4 hh4 ht4) | fail)
   try go_frame
   refine bodyPost_ret (v:=C6.val ⟨fs,nx,cp,sg,3,0⟩ a2 c2) (by simp [results,Tryz.results51,asAddr,C6.load hh4.out]) rfl ?_
   rw [HE.out]
   exact ⟨⟨a2,c2,rfl,(HO3.out.kept (fun g hg=>ht4.out.block g (by have:=(HO3.out.range hg).1;omega))).at,zdD HO3.out.own⟩,hB3.trans (ht4.out.below (by omega))⟩
  ·have hfb:((fs.length:Int)==cp)=false:=by simpa using hfull
   by_cases hnx:1000000<nx
   ·have HE:=hidden' (show asOk fs nx cp sg cls vs=⟨fs,nx,cp,sg,4,0⟩ by unfold asOk;rw [hT,if_neg ht,if_neg hfull,if_pos hnx])
    clear hT
    go_wp2_with (first | (refine zak (by rfl) 132 (.tmp 6) (.tmp 49) (by rfl) (w.heap.size+1) (C6.cells ⟨fs,nx,cp,sg,4,0⟩ a2 c2) (by rfl) (by rfl) R 132 HR3.out hRs zlp (C6.one _ _ _) ?_;intro w4 hh4 ht4) | fail)
    try go_frame
    refine bodyPost_ret (v:=C6.val ⟨fs,nx,cp,sg,4,0⟩ a2 c2) (by simp [results,Tryz.results51,asAddr,C6.load hh4.out]) rfl ?_
    rw [HE.out]
    exact ⟨⟨a2,c2,rfl,(HO3.out.kept (fun g hg=>ht4.out.block g (by have:=(HO3.out.range hg).1;omega))).at,zdD HO3.out.own⟩,hB3.trans (ht4.out.below (by omega))⟩
   ·have HE:=hidden' (show asOk fs nx cp sg cls vs=⟨fs ++ [⟨nx,cls,vs⟩],nx+1,cp,sg,0,nx⟩ by unfold asOk;rw [hT,if_neg ht,if_neg hfull,if_neg hnx])
    clear hT
    go_wp2_with (first | fail)
    refine (zlz a2 c2 fs xs2 nx cp sg cls sa sc vs _ w1.heap.size w3 HO3.out.pfs (fun b hb=>hb.2.1) hsv3 hl hvl (by omega) (by omega) (by omega)).mono ?_
    rintro e w5 ⟨⟨a5,c5,rfl,hon5,hcap5⟩,hb5⟩
    have HR5:=hidden' ((hb5.block (w.heap.size+1) hz1).trans HR3.out)
    go_wp2_with (first | (refine zak (by rfl) 132 (.tmp 6) (.tmp 53) (by rfl) (w.heap.size+1) (C6.cells ⟨fs ++ [⟨nx,cls,vs⟩],nx+1,cp,sg,0,nx⟩ a5 c5) (by rfl) (by rfl) R 132 HR5.out hRs zlp (C6.one _ _ _) ?_;intro w4 hh4 ht4) | fail)
    try go_frame
    refine bodyPost_ret (v:=C6.val ⟨fs ++ [⟨nx,cls,vs⟩],nx+1,cp,sg,0,nx⟩ a5 c5) (by simp [results,Tryz.results51,asAddr,C6.load hh4.out]) rfl ?_
    rw [HE.out]
    refine ⟨⟨a5,c5,rfl,?_,by rw [List.length_append];exact hcap5⟩,(hB3.trans (hb5.mono hB1.size)).trans (ht4.out.below (by omega))⟩
    exact (hon5.kept (fun b hz _=>ht4.out.block b (by rcases hz with hz | hz <;> omega))).at
end Go.Proofs.YtmmdlgjmplddiaaGreat
namespace Go.Proofs.YtmmdlgjmplddiaaGreat
open Go.RowKit
end Go.Proofs.YtmmdlgjmplddiaaGreat
namespace Go.Proofs.YtmmdlgjmplddiaaGreat
structure VS (fs:List F) (nx cp:Int) (sg:Bool):Prop where
 cp0:0≤cp
 cp40:cp≤40
 len:(fs.length:Int)≤cp
 good:zbm 0 fs=true
 nx1:1≤nx
 nxm:nx≤1000001
 low:∀ f∈fs,f.tag<nx
 nodup:sg=true→(fs.map like).Nodup
theorem VS.iff {fs:List F}{nx cp:Int}{sg:Bool}:zbw fs nx cp sg=true ↔ VS fs nx cp sg:=by
 unfold zbw
 cases sg with
 | false=>
  rw [zfh]
  simp only [zeE,zaS,Bool.and_eq_true,decide_eq_true_eq,List.all_eq_true]
  constructor
  ·rintro ⟨⟨h1,h2,h3,⟨h4,h5⟩,h6,h7⟩,h8⟩
   exact ⟨h1,h2,h3,h5,h6,h7,h8,fun h=>by cases h⟩
  ·intro h
   exact ⟨⟨h.cp0,h.cp40,h.len,⟨by have:=h.len;have:=h.cp40;omega,h.good⟩,h.nx1,h.nxm⟩,h.low⟩
 | true=>
  rw [zf9 nx fs [] List.nodup_nil]
  simp only [zeE,zaS,Bool.and_eq_true,decide_eq_true_eq,List.all_eq_true,List.nil_append]
  constructor
  ·rintro ⟨⟨h1,h2,h3,⟨h4,h5⟩,h6,h7⟩,h8,h9⟩
   exact ⟨h1,h2,h3,h5,h6,h7,h8,fun _=>h9⟩
  ·intro h
   exact ⟨⟨h.cp0,h.cp40,h.len,⟨by have:=h.len;have:=h.cp40;omega,h.good⟩,h.nx1,h.nxm⟩,h.low,h.nodup rfl⟩
theorem zgi:∀ {fs:List F}{last:Int}{g:F},zbm last fs=true→(∀ f∈fs,f.tag<g.tag)→last<g.tag→g.tag≤1000000→gSym g.cls.data.toList=true→zbp g.slots=true→zbm last (fs ++ [g])=true
 | [],last,g,_,_,h1,h2,h3,h4=>by simp [zbm,okF,h1,h2,h3,h4]
 | f :: r,last,g,h,hl,h1,h2,h3,h4=>by
  simp only [zbm,Bool.and_eq_true,List.cons_append] at h ⊢
  exact ⟨h.1,zgi h.2 (fun x hx=>hl x (by simp [hx])) (hl f (by simp)) h2 h3 h4⟩
theorem zhx {but:Int}{cls:ByteArray}{vs:List V}:∀ {fs:List F}{last:Int},0≤last→zbm last fs=true→¬ 0<zgF but cls vs fs→∀ f∈fs,bars but cls vs f=false
 | [],_,_,_,_,f,hf=>by simp at hf
 | g :: r,last,hl,h,ht,f,hf=>by
  simp only [zbm,okF,Bool.and_eq_true,decide_eq_true_eq] at h
  unfold zgF at ht
  split at ht
  ·omega
  ·rcases List.mem_cons.1 hf with rfl | hf
   ·simpa using ‹¬ bars but cls vs f=true›
   ·exact zhx (last:=g.tag) (by omega) h.2 ht f hf
theorem zke {but:Int}{cls:ByteArray}{vs:List V}{fs:List F} (h:∀ f∈fs,bars but cls vs f=false) (hb:∀ f∈fs,f.tag≠but):(cls,vs) ∉ fs.map like:=by
 intro hm
 obtain ⟨f,hf,he⟩:=List.mem_map.1 hm
 have h1:=h f hf
 have h2:=hb f hf
 simp only [like,Prod.mk.injEq] at he
 simp [bars,h2,he.1,he.2] at h1
theorem VS.add {fs:List F}{nx cp:Int}{sg:Bool}{cls:ByteArray}{vs:List V} (h:VS fs nx cp sg) (hn:¬ 1000000<nx) (hl:(fs.length:Int)<cp) (h2:gSym cls.data.toList=true) (h3:zbp vs=true) (hf:sg=true→(cls,vs) ∉ fs.map like):VS (fs ++ [⟨nx,cls,vs⟩]) (nx+1) cp sg:=by
 refine ⟨h.cp0,h.cp40,by simp;omega,zgi h.good (fun f hf'=>h.low f hf') (by have:=h.nx1;show (0:Int)<nx;omega) (by show nx≤1000000;omega) h2 h3,by have:=h.nx1;omega,by omega,?_,?_⟩
 ·intro f hf'
  rcases List.mem_append.1 hf' with hf' | hf'
  ·have:=h.low f hf'
   omega
  ·simp at hf'
   subst hf'
   show nx<nx+1
   omega
 ·intro hs
  rw [List.map_append,List.nodup_append]
  refine ⟨h.nodup hs,by simp,fun x hx y hy e=>?_⟩
  simp at hy
  subst hy
  rw [e] at hx
  exact hf hs hx
def Told (fs:List F) (nx cp:Int) (sg:Bool) (r:C6):Prop:=r.code=1∨(VS r.fs r.nx r.cp r.sg∧nx≤r.nx∧r.cp=cp∧r.sg=sg∧(r.code≠0→r.fs=fs∧r.nx=nx))
theorem Told.same {fs:List F}{nx cp:Int}{sg:Bool} (h:VS fs nx cp sg) (k t:Int):Told fs nx cp sg ⟨fs,nx,cp,sg,k,t⟩:=.inr ⟨h,Int.le_refl _,rfl,rfl,fun _=>⟨rfl,rfl⟩⟩
theorem zmg {fs:List F} (h:zbm 0 fs=true):∀ f∈fs,f.tag≠0:=fun f hf=>by
 have:=zeU h f hf
 omega
theorem zlt {fs:List F}{nx cp:Int}{sg:Bool} (cls:ByteArray) (vs:List V) (h:VS fs nx cp sg):Told fs nx cp sg (asrt fs nx cp sg cls vs):=by
 cases hg:(zbw fs nx cp sg && (gSym cls.data.toList && zbp vs))
 ·rw [zlJ hg]
  exact .inl rfl
 ·simp only [Bool.and_eq_true] at hg
  obtain ⟨h1,h2,h3⟩:=hg
  rw [zll h1 h2 h3]
  unfold asOk
  split
  ·exact Told.same h _ _
  ·rename_i ht
   split
   ·exact Told.same h _ _
   ·rename_i hc
    split
    ·exact Told.same h _ _
    ·rename_i hn
     refine .inr ⟨h.add hn (by have:=h.len;omega) h2 h3 (fun hs=>?_),by show nx≤nx+1;omega,rfl,rfl,fun hk=>absurd rfl hk⟩
     subst hs
     exact zke (but:=0) (zhx (Int.le_refl 0) h.good ht) (zmg h.good)
end Go.Proofs.YtmmdlgjmplddiaaGreat
namespace Go.Proofs.YtmmdlgjmplddiaaGreat
open Go.RowKit
attribute [local go_sem ↓] Go.wp_at_zero Go.wp_at_succ
def zky (cs:Array Value):Prop:=∀ (j:Nat) (s:ByteArray),cs[j]?≠some (.string s)
theorem zkg {w:World}{b b' o:Nat}{cs:Array Value}{t:TypeId}{fr:Nat × Nat}{s:ByteArray} (hb:w.heap[b]?=some (.cells cs t fr)) (hn:zky cs) (hc:w.cell? ⟨b',o,none⟩=some (.string s)):b'≠b:=by
 intro e
 subst e
 simp [World.cell?,hb] at hc
 exact hn o s hc
theorem zaY.far {w w':World}{a:Option Addr}{vs:List V}{b:Nat}{cs:Array Value}{t:TypeId}{fr:Nat × Nat} (h:zaY w a vs) (hb:w.heap[b]?=some (.cells cs t fr)) (hn:zky cs) (hk:∀ k,k≠b→k<w.heap.size→w'.heap[k]?=w.heap[k]?):zaY w' a vs:=by
 intro i v hv
 obtain ⟨b',o,e,c0,c1,c2⟩:=h i v hv
 have hne:=zkg hb hn c2
 have key:∀ p,w'.cell? ⟨b',p,none⟩=w.cell? ⟨b',p,none⟩:=fun p=>World.cell?_of_block (w:=w) (hk b' hne (World.block_lt_of_cell? w ⟨b',_,none⟩ c2))
 exact ⟨b',o,e,(key _).trans c0,(key _).trans c1,(key _).trans c2⟩
theorem zaG.far {w w':World}{a:Option Addr}{fs:List F}{b:Nat}{cs:Array Value}{t:TypeId}{fr:Nat × Nat} (h:zaG w a fs) (hb:w.heap[b]?=some (.cells cs t fr)) (hn:zky cs) (hk:∀ k,k≠b→k<w.heap.size→w'.heap[k]?=w.heap[k]?):zaG w' a fs:=by
 intro i f hf
 obtain ⟨b',o,e,c0,c1,sa,sc,c2,hv⟩:=h i f hf
 have hne:=zkg hb hn c1
 have key:∀ p,w'.cell? ⟨b',p,none⟩=w.cell? ⟨b',p,none⟩:=fun p=>World.cell?_of_block (w:=w) (hk b' hne (World.block_lt_of_cell? w ⟨b',_,none⟩ c1))
 exact ⟨b',o,e,(key _).trans c0,(key _).trans c1,sa,sc,(key _).trans c2,hv.far hb hn hk⟩
theorem zi3 (a:Option Addr) (n c:Nat) (nx cp:Int) (sg:Bool):zky #[.slice a n c,.int .i64 nx,.int .i64 cp,.bool sg]:=by
 intro j s h
 rcases j with _ | _ | _ | _ | j <;> simp at h
theorem znZ (a:Option Addr) (n c:Nat) (i:Int):zky #[.slice a n c,.int .i64 i]:=by
 intro j s h
 rcases j with _ | _ | j <;> simp at h
theorem zaG.rsN {g:Nat}{w w':World}{a:Option Addr}{fs:List F} (h:zaG w a fs) (hr:Rs g w w') (hg:Rdr w g):zaG w' a fs:=by
 obtain ⟨_,_,_,_,h1,_⟩:=hg
 exact h.far h1 (znZ _ _ _ _) (fun k hk hl=>hr.1.block k hl (fun e=>hk (by injection e with e;exact e.symm)))
def TB (w:World) (d:Nat) (a:Option Addr) (n c:Nat) (nx cp:Int) (sg:Bool):Prop:=w.heap[d]?=some (.cells #[.slice a n c,.int .i64 nx,.int .i64 cp,.bool sg] 26 (0,0))
theorem TB.facts {w:World}{b:Nat}{a:Option Addr}{n c:Nat}{nx cp:Int}{sg:Bool} (h:TB w b a n c nx cp sg):(w.cell? ⟨b,0,none⟩=some (.slice a n c)∧w.cell? ⟨b,1,none⟩=some (.int .i64 nx)∧w.cell? ⟨b,2,none⟩=some (.int .i64 cp)∧w.cell? ⟨b,3,none⟩=some (.bool sg))∧(∀ j,w.frozen? ⟨b,j,none⟩=false)∧b<w.heap.size:=by
 unfold TB at h
 refine ⟨⟨?_,?_,?_,?_⟩,fun j=>?_,zab h⟩ <;> simp [World.cell?,World.frozen?,h]
def stV (a:Option Addr) (n c:Nat) (nx cp:Int) (sg:Bool):Value:=.agg #[.slice a n c,.int .i64 nx,.int .i64 cp,.bool sg]
theorem znv {w:World}{base:Nat}{a:Option Addr}{c:Nat}{Y:List FcV} (h:FsO w base a c Y) {i:Nat}{x:FcV} (hi:Y[i]?=some x) :
  ∃ k,a=some ⟨k,0,none⟩∧k<w.heap.size∧w.cell? ⟨k,i * 3,none⟩=some (.int .i64 x.1.tag)∧w.cell? ⟨k,i * 3+1,none⟩=some (.string x.1.cls)∧w.cell? ⟨k,i * 3+2,none⟩=some x.2:=by
 have key:=fun j u (hj:(fxcells x)[j]?=some u)=>zam h.1 (zbe (cells:=fxcells) (m:=3) (fun _=>rfl) Y i x j u hi hj)
 obtain ⟨k,rfl,_,h0,_⟩:=key 0 _ rfl
 obtain ⟨k1,e1,_,h1,_⟩:=key 1 _ rfl
 obtain ⟨k2,e2,_,h2,_⟩:=key 2 _ rfl
 cases e1
 cases e2
 exact ⟨k,rfl,World.block_lt_of_cell? w ⟨k,_,none⟩ h0,h0,h1,h2⟩
def FOk (fs:List F):Prop:=∀ f∈fs,GCl f.cls∧f.slots.length≤3∧∀ v∈f.slots,VSm v
theorem zg5 {vs:List V} (h3:vs.length≤3) (hv:∀ v∈vs,VSm v):zbp vs=true:=by
 simp only [zbp,Bool.and_eq_true,decide_eq_true_eq,List.all_eq_true]
 exact ⟨by omega,fun v h=>(hv v h).2.2.2.2⟩
theorem zkk {s:ByteArray} (h:GCl s):gSym s.data.toList=true:=by
 have:=h.2
 simp only [gCls,Bool.and_eq_true] at this
 exact this.1
theorem zmc {fs:List F}{nx cp:Int}{sg:Bool}{cls:ByteArray}{vs:List V} (h:FOk fs) (hc:GCl cls) (h3:vs.length≤3) (hv:∀ v∈vs,VSm v):FOk (asOk fs nx cp sg cls vs).fs∧(asOk fs nx cp sg cls vs).fs.length≤fs.length+1∧(asOk fs nx cp sg cls vs).cp=cp∧(asOk fs nx cp sg cls vs).sg=sg:=by
 unfold asOk
 split
 ·exact ⟨h,by simp,rfl,rfl⟩
 ·split
  ·exact ⟨h,by simp,rfl,rfl⟩
  ·split
   ·exact ⟨h,by simp,rfl,rfl⟩
   ·refine ⟨fun f hf=>?_,by simp,rfl,rfl⟩
    rcases List.mem_append.1 hf with hf | hf
    ·exact h f hf
    ·simp at hf
     subst hf
     exact ⟨hc,h3,hv⟩
theorem znh {fs:List F}{nx cp:Int}{sg:Bool}{cls:ByteArray}{vs:List V} (h:VS fs nx cp sg) (h2:gSym cls.data.toList=true) (h3:zbp vs=true):VS (asOk fs nx cp sg cls vs).fs (asOk fs nx cp sg cls vs).nx cp sg:=by
 have hv:=VS.iff.2 h
 have ht:=zlt cls vs h
 rw [zll hv h2 h3] at ht
 rcases ht with ht | ⟨h1,_,h4,h5,_⟩
 ·exfalso
  unfold asOk at ht
  split at ht
  ·simp at ht
  ·split at ht
   ·simp at ht
   ·split at ht <;> simp at ht
 ·rw [h4,h5] at h1
  exact h1
theorem zg6 {fs:List F} (h:FOk fs):∀ f∈fs,Sized f:=fun f hf=>⟨by have:=(h f hf).1.1;unfold maxLen;omega,by have:=(h f hf).2.1;omega,fun v hv=>by have:=((h f hf).2.2 v hv).1;unfold maxLen;omega⟩
theorem zhI {v:World}{d:Nat}{x0 x1 x2 x3:Value} (k:Nat) (hk:k≠d):((((v.drew.setCell ⟨d,0,none⟩ x0).setCell ⟨d,1,none⟩ x1).setCell ⟨d,2,none⟩ x2).setCell ⟨d,3,none⟩ x3).heap[k]?=v.heap[k]?:=by
 have e1:∀ (u:World) (j:Nat) (x:Value),(u.setCell ⟨d,j,none⟩ x).heap[k]?=u.heap[k]?:=fun u j x=>Below.heap_setCell _ _ _ _ hk
 rw [e1,e1,e1,e1]
 rfl
theorem Rsfin {g:Nat}{w v:World}{x0 x1 x2 x3:Value} (h:Rs g w v) (hg:g<w.heap.size):Rs g w ((((v.drew.setCell ⟨w.heap.size,0,none⟩ x0).setCell ⟨w.heap.size,1,none⟩ x1).setCell ⟨w.heap.size,2,none⟩ x2).setCell ⟨w.heap.size,3,none⟩ x3):=
 ((((h.bel (Below.refl _ _).drew).setOwn (Nat.le_refl _) hg).setOwn (Nat.le_refl _) hg).setOwn (Nat.le_refl _) hg).setOwn (Nat.le_refl _) hg
theorem zl7 {P:World→Prop}{w:World}{b:Nat}{a:Option Addr}{n c:Nat}{nx cp v:Int}{sg:Bool} (h0:TB w b a n c nx cp sg) (h:∀ wt,TB wt b a n c v cp sg→Turned w wt b→P wt):P (w.setCell ⟨b,1,none⟩ (.int .i64 v)):=
 h _ (by have:=zad (i:=1) h0 (.int .i64 v);simpa [TB] using this) (Turned.setCells [.int .i64 v] 1 w b)
theorem zma {P:World→Prop}{w:World}{b:Nat}{a:Option Addr}{n c:Nat}{nx cp v:Int}{sg:Bool} (h0:TB w b a n c nx cp sg) (h:∀ wt,TB wt b a n c nx v sg→Turned w wt b→P wt):P (w.setCell ⟨b,2,none⟩ (.int .i64 v)):=
 h _ (by have:=zad (i:=2) h0 (.int .i64 v);simpa [TB] using this) (Turned.setCells [.int .i64 v] 2 w b)
theorem znG {w:World}{b:Nat}{a a':Option Addr}{n c n' c':Nat}{nx cp nx' cp':Int}{sg sg':Bool} (h0:TB w b a n c nx cp sg):TB ((((w.setCell ⟨b,0,none⟩ (.slice a' n' c')).setCell ⟨b,1,none⟩ (.int .i64 nx')).setCell ⟨b,2,none⟩ (.int .i64 cp')).setCell ⟨b,3,none⟩ (.bool sg')) b a' n' c' nx' cp' sg'∧Turned w ((((w.setCell ⟨b,0,none⟩ (.slice a' n' c')).setCell ⟨b,1,none⟩ (.int .i64 nx')).setCell ⟨b,2,none⟩ (.int .i64 cp')).setCell ⟨b,3,none⟩ (.bool sg')) b:=by
 have h1:=zad (i:=0) h0 (.slice a' n' c')
 have h2:=zad (i:=1) h1 (.int .i64 nx')
 have h3:=zad (i:=2) h2 (.int .i64 cp')
 have h4:=zad (i:=3) h3 (.bool sg')
 exact ⟨by simpa [TB] using h4,Turned.setCells [.slice a' n' c',.int .i64 nx',.int .i64 cp',.bool sg'] 0 w b⟩
theorem ziB (v0 v1 v2 v3 v4 v5:Value) (w:World):(Instr.field 132 (.agg #[v0,v1,v2,v3,v4,v5]) 0).run Tryz.prog w=.ok (.agg #[v0,v1,v2,v3]) w:=by kernel_rfl
theorem zlH {P:Program}{op:Oper}{a:Act}{w:World}{K:Act→World→Prop}{Q:Exit→Act→World→Prop} (ty:TypeId) (x:Operand) (i:Nat) (ho:op.op=.field ty x i) (u v:Value) (hx:a.eval x=u)
  (hv:(Instr.field ty u i).run P w=.ok v w) (h:K (a.put op.dst v) w):op.wp P a w K Q:=by
 unfold Oper.wp execOp
 simp only [ho,hx,hv,Result.andThen_ok,Sem.run_bind,Sem.run_pure]
 exact h
theorem zg4 {P:Program}{ops:Array Oper}{rest:List Oper}{op:Oper}{a:Act}{w:World}{Q:Exit→Act→World→Prop} (hgd:op.guard=none) (ty:TypeId) (x:Operand) (i:Nat) (ho:op.op=.field ty x i) (u v:Value) (hx:a.eval x=u)
  (hv:(Instr.field ty u i).run P w=.ok v w) (h:wpList P ops Q rest (a.put op.dst v) w):wpList P ops Q (op :: rest) a w:=
 wpList_plain hgd fun _ hK=>zlH ty x i ho u v hx hv (hK _ _ h)
theorem MkO.turned {b:Nat}{w w':World} (h:Turned w w' b):MkO (some b) w w':=⟨h.below (Nat.zero_le _),fun k _ hne=>h.block k (fun e=>hne (by rw [e]))⟩
theorem MkO.keep {b:Nat}{w w':World} (h:MkO (some b) w w'):∀ k,k≠b→k<w.heap.size→w'.heap[k]?=w.heap[k]?:=fun k hk hl=>h.block k hl (fun e=>hk (by injection e with e;exact e.symm))
theorem Rs.mko {g b:Nat}{w u v:World} (h:Rs g w u) (hm:MkO (some b) u v) (hb:w.heap.size≤b) (hg:g<w.heap.size):Rs g w v:=
 ⟨⟨h.1.rest.trans hm.rest,fun k hk hne=>(hm.block k (Nat.lt_of_lt_of_le hk h.1.rest.size) (fun e=>by injection e with e;omega)).trans (h.1.block k hk hne)⟩,h.2.old (hm.below (by have:=h.1.rest.size;omega) (fun k hk=>by injection hk with hk;omega))⟩
set_option maxRecDepth 100000 in
set_option maxHeartbeats 6400000 in
theorem zh9 (g most:Nat) (w:World) (h:Rdr w g) (hm:most≤12):Calls Tryz.prog 20 #[.pointer (some ⟨g,0,none⟩),.int .i64 (most:Int)] w fun e w'=>∃ a c M fa fc fs nx cp sg,e=.returned (.tuple #[.slice a (List.length M) c,stV fa (List.length fs) fc nx cp sg])∧(1≤M.length∧M.length≤8∧MOk M)∧RO w' w.heap.size a c M∧(zaG w' fa fs∧fs.length≤fc∧zbm 0 fs=true∧fs.length≤most∧FOk fs)∧Rs g w w':=by
 have H:=hidR h
 have hlt:=h.lt
 clear h
 have HA:=hidR (fun o=>(Below.refl _ _).alloc (Nat.le_refl _) o:∀ o,Below w.heap.size w (w.alloc o))
 have HRa:=hidR (fun o=>H.out.bel (HA.out o))
 go_enter Tryz.func20,Tryz.ntmps20
 go_wp2_with fail
 refine (ze0 g 3 _ (HRa.out _) (by omega) (by omega)).mono ?_
 rintro e w1 ⟨a,c,M,rfl,hM1,hM8,hMK,hRO,hr1⟩
 have HMK:=hidR hMK
 have SB1:=hidR (show TB w1 w.heap.size none 0 0 0 0 false from zaC hr1 (heap_alloc_new _ _) (by omega))
 have MO1:=hidR (hRO.lower (base':=w.heap.size) (by simp))
 have R1:=hidR ((Rs.of H.out (HA.out _)).trans hr1)
 have hs1:w.heap.size<w1.heap.size:=zab SB1.out
 clear hRO hr1 HA HRa H hMK
 go_wp2_with fail
 refine (zbf g w1 R1.out.2).mono ?_
 rintro e w2 ⟨n2,hn2,rfl,hr2⟩
 have SB2:=hidR (show TB w2 w.heap.size none 0 0 0 0 false from zaC hr2 SB1.out (by omega))
 have MO2:=hidR (MO1.out.rs hr2 hlt)
 have R2:=hidR (R1.out.trans hr2)
 have hs2:=hr2.1.rest.size
 clear hr2 SB1 MO1 R1
 go_upto_region 3 with fail
 refine zaj ?_
 intro w3 hW3 hsb3
 obtain ⟨sg,hsg⟩:∃ sg,sg=((n2:Int) % 2==1):=⟨_,rfl⟩
 rw [← hsg] at hsb3
 have S3:=hidR (show TB w3 (w2.heap.size) none 0 0 1 12 sg from hsb3)
 have SB3:=hidR (show TB w3 w.heap.size none 0 0 0 0 false from (hW3.block _ (by omega)).trans SB2.out)
 have MO3:=hidR (MO2.out.bel hW3)
 have R3:=hidR (R2.out.bel hW3)
 have hs3:=hW3.size
 clear hW3 hsb3 SB2 MO2 R2 hsg
 go_wp2_with fail
 refine (ziv g w.heap.size most a c M w3 R3.out.2 MO3.out HMK.out hM1 hM8 hm).mono ?_
 rintro e w4 ⟨xa,xc,Fs,rfl,hFm,hFO,hr4⟩
 have S4:=hidR (show TB w4 (w2.heap.size) none 0 0 1 12 sg from zaC hr4 S3.out (by omega))
 have SB4:=hidR (show TB w4 w.heap.size none 0 0 0 0 false from zaC hr4 SB3.out (by omega))
 have MO4:=hidR (MO3.out.rs hr4 hlt)
 have R4:=hidR (R3.out.trans hr4)
 have FO4:=hidR hFO
 have hs4:=hr4.1.rest.size
 have hsb3l:(w2.heap.size)<w3.heap.size:=zab S3.out
 clear hr4 S3 SB3 MO3 R3 hFO
 go_wp2_with fail
 go_loopw [23] (fun iv wr=>∃ (i:Nat) (fa:Option Addr) (fc:Nat) (fs:List F) (nx:Int),iv=.int .i64 (i:Int)∧i≤Fs.length∧TB wr (w2.heap.size) fa fs.length fc nx 12 sg∧zaG wr fa fs∧(fs.length≤fc∧VS fs nx 12 sg∧fs.length≤i∧FOk fs)∧MkO (some (w2.heap.size)) w4 wr) (fun iv _=>(20 - intOf iv).toNat)
 case atStart=>exact ⟨0,none,0,[],1,rfl,by omega,S4.out,fun i f hf=>by simp at hf,⟨by simp,VS.iff.1 (by cases sg <;> rfl),by simp,fun f hf=>by simp at hf⟩,MkO.refl _ _⟩
 case round=>
  obtain ⟨i,fa,fc,fs,nx,rfl,hiF,hT,hFA,⟨hfc,hVS,hfi,hfok⟩,hMk⟩:=hrel
  have T0:=hidR hT
  have FA:=hidR hFA
  have HV:=hidR (And.intro hVS hfok)
  have MK:=hidR hMk
  have hsr:=hMk.rest.size
  clear hT hFA hVS hfok hMk
  have Rr:=hidR (R4.out.mko MK.out (by omega) hlt)
  have SBr:=hidR (show TB wr w.heap.size none 0 0 0 0 false from (MK.out.keep _ (by omega) (zab SB4.out)).trans SB4.out)
  have MOr:=hidR (show RO wr w.heap.size a c M from MO4.out.same (Same.kept (d:=(w2.heap.size)) MK.out.keep S4.out (by decide)))
  by_cases hi:i<Fs.length
  ·have FOr:=hidR (show FsO wr w3.heap.size xa xc Fs from FO4.out.same (T:=[42,109]) (Same.kept (d:=(w2.heap.size)) MK.out.keep S4.out (by decide)) (by decide) (by decide))
   obtain ⟨x,hxi⟩:∃ x,Fs[i]?=some x:=⟨Fs[i],by simp [hi]⟩
   obtain ⟨xk,rfl,hxk,c0,c1,c2⟩:=znv FOr.out hxi
   obtain ⟨⟨⟨sa,sc,hx2⟩,hvown⟩,hcl,hx3,hxs⟩:=FOr.out.2 x (List.mem_of_getElem? hxi)
   rw [hx2] at c2 hvown
   have VA:=hidR (zaY.owns hvown)
   have HX:=hidR (And.intro hcl hxs)
   have hiI:(i:Int)<(Fs.length:Int):=by omega
   have hi0:(0:Int)≤(i:Int):=by omega
   clear hvown hx2 hxi hcl hxs
   go_upto_region 6 with fail
   refine zaj ?_
   intro w5 hW5 hfb
   have hs5:=hW5.size
   have T5:=hidR (show TB w5 (w2.heap.size) fa fs.length fc nx 12 sg from (hW5.block _ (zab T0.out)).trans T0.out)
   obtain ⟨⟨f0,f1,f2,f3⟩,z,hsb5⟩:=T5.out.facts
   obtain ⟨d0,d1,d2⟩:w5.cell? ⟨wr.heap.size,0,none⟩=some (.int .i64 x.1.tag)∧w5.cell? ⟨wr.heap.size,1,none⟩=some (.string x.1.cls)∧w5.cell? ⟨wr.heap.size,2,none⟩=some (.slice sa x.1.slots.length sc):=by refine ⟨?_,?_,?_⟩ <;> simp [World.cell?,hfb]
   have hfbl:wr.heap.size<w5.heap.size:=zab hfb
   have B5:=hidR hW5
   clear hW5 hfb c0 c1 c2 z
   go_wp2_with fail
   refine (zj2 fa fc fs nx 12 sg x.1.cls sa sc x.1.slots w5 (FA.out.below B5.out) (VA.out.below B5.out) hfc (by omega) (zg6 HV.out.2) (by have:=HX.out.1.1;unfold maxLen;omega) (by omega) (fun v hv=>by have:=(HX.out.2 v hv).1;unfold maxLen;omega) (VS.iff.2 HV.out.1) (zkk HX.out.1) (zg5 hx3 HX.out.2)).mono ?_
   have HQ:=hidR (And.intro (zmc (nx:=nx) (cp:=12) (sg:=sg) HV.out.2 HX.out.1 hx3 HX.out.2) (znh HV.out.1 (zkk HX.out.1) (zg5 hx3 HX.out.2)))
   obtain ⟨r,hr⟩:∃ r,r=asOk fs nx 12 sg x.1.cls x.1.slots:=⟨_,rfl⟩
   rw [← hr] at HQ ⊢
   clear hr
   rintro e w6 ⟨⟨a6,c6,rfl,hF6,hc6⟩,hb6⟩
   have FA6:=hidR hF6
   have B6:=hidR hb6
   have T6:=hidR (show TB w6 (w2.heap.size) fa fs.length fc nx 12 sg from (hb6.block _ hsb5).trans T5.out)
   clear hF6 hb6 f0 f1 f2 f3 d0 d1 d2
   obtain ⟨⟨f0,f1,f2,f3⟩,z,hsb6⟩:=T6.out.facts
   have z0:=z 0
   have z1:=z 1
   have z2:=z 2
   have z3:=z 3
   clear z
   unfold C6.val
   go_wp2_with (first | (refine zg4 (by rfl) 132 (.tmp 32) 0 (by rfl) _ _ (by rfl) (ziB _ _ _ _ _ _ _) ?_) | fail)
   go_roundw
   case rel=>
    obtain ⟨⟨q1,q2,q3,q4⟩,q5⟩:=HQ.out
    obtain ⟨hT7,ht7⟩:=znG (a':=a6) (n':=r.fs.length) (c':=c6) (nx':=r.nx) (cp':=r.cp) (sg':=r.sg) T6.out
    rw [q3,q4] at hT7
    rw [q3,q4] at ht7 ⊢
    exact ⟨i+1,a6,c6,r.fs,r.nx,by go_num,by omega,hT7,FA6.out.far T6.out (zi3 _ _ _ _ _ _) (fun k hk _=>ht7.block k hk),⟨hc6,q5,by omega,q1⟩,((MK.out.trans (MkO.of_below B5.out)).trans (MkO.of_below B6.out)).trans (MkO.turned ht7)⟩
   case measure=>(simp [intOf];omega)
  ·have hi':¬ (i:Int)<(Fs.length:Int):=by omega
   go_wp2_with fail
   refine (zbf g wr Rr.out.2).mono ?_
   rintro e w5 ⟨n5,hn5,rfl,hr5⟩
   have S5:=hidR (show TB w5 (w2.heap.size) fa fs.length fc nx 12 sg from zaC hr5 T0.out (by omega))
   have SB5:=hidR (show TB w5 w.heap.size none 0 0 0 0 false from zaC hr5 SBr.out (by omega))
   have MO5:=hidR (MOr.out.rs hr5 hlt)
   have FA5:=hidR (FA.out.rsN hr5 Rr.out.2)
   have R5:=hidR (Rr.out.trans hr5)
   have hs5:=hr5.1.rest.size
   clear hr5 T0 SBr MOr FA Rr S4 SB4 MO4 R4 FO4 MK
   go_upto_if 39 with fail
   go_cut [] (fun wx=>∃ nx' cp',TB wx (w2.heap.size) fa fs.length fc nx' cp' sg∧MkO (some (w2.heap.size)) w5 wx)
   case first=>
    obtain ⟨⟨f0,f1,f2,f3⟩,z,hb5⟩:=S5.out.facts
    have z2:=z 2
    clear z
    cases h16:((n5:Int) % 16==0)
    ·go_wp2_with fail
     go_meet
     exact ⟨_,_,S5.out,MkO.refl _ _⟩
    ·go_wp2_with fail
     refine zma S5.out ?_
     intro wt hTt hTu
     go_meet
     exact ⟨_,_,hTt,MkO.turned hTu⟩
   case rest=>
    obtain ⟨nx1,cp1,hT1,hM1'⟩:=hcut
    obtain ⟨w6,rfl⟩:∃ v,v=wc:=⟨wc,rfl⟩
    have S6:=hidR hT1
    have MK6:=hidR hM1'
    clear hT1 hM1'
    go_upto_if 46 with fail
    go_cut [] (fun wx=>∃ nx' cp',TB wx (w2.heap.size) fa fs.length fc nx' cp' sg∧MkO (some (w2.heap.size)) w5 wx)
    case first=>
     obtain ⟨⟨f0,f1,f2,f3⟩,z,hb5⟩:=S6.out.facts
     have z1:=z 1
     clear z
     cases h32:((n5:Int) % 32==1)
     ·go_wp2_with fail
      go_meet
      exact ⟨_,_,S6.out,MK6.out⟩
     ·go_wp2_with fail
      refine zl7 S6.out ?_
      intro wt hTt hTu
      go_meet
      exact ⟨_,_,hTt,MK6.out.trans (MkO.turned hTu)⟩
    case rest=>
     obtain ⟨nx2,cp2,hT2,hM2⟩:=hcut
     obtain ⟨w7,rfl⟩:∃ v,v=wc:=⟨wc,rfl⟩
     have SB7:=hidR (show TB w7 w.heap.size none 0 0 0 0 false from (hM2.keep _ (by omega) (zab SB5.out)).trans SB5.out)
     have MO7:=hidR (show RO w7 w.heap.size a c M from MO5.out.same (Same.kept (d:=(w2.heap.size)) hM2.keep S5.out (by decide)))
     have FA7:=hidR (FA5.out.far S5.out (zi3 _ _ _ _ _ _) hM2.keep)
     have R7:=hidR (R5.out.mko hM2 (by omega) hlt)
     obtain ⟨⟨f0,f1,f2,f3⟩,_,hbt⟩:=hT2.facts
     obtain ⟨⟨e0,e1,e2,e3⟩,z',hbr⟩:=SB7.out.facts
     have y0:=z' 0
     have y1:=z' 1
     have y2:=z' 2
     have y3:=z' 3
     clear z' hT2 hM2 S5 SB5 MO5 FA5 R5 S6 MK6
     go_wp2_with fail
     go_region
     go_wp2_with fail
     refine bodyPost_ret (v:=.tuple #[.slice a M.length c,stV fa fs.length fc nx2 cp2 sg]) (by simp [results,Tryz.results20,go_sem,e0,e1,e2,e3,stV]) rfl ⟨a,c,M,fa,fc,fs,nx2,cp2,sg,rfl,⟨hM1,hM8,HMK.out⟩,?_,⟨?_,hfc,HV.out.1.good,by omega,HV.out.2⟩,Rsfin R7.out hlt⟩
     ·exact MO7.out.same (Same.kept (d:=w.heap.size) (fun k hk _=>zhI k hk) SB7.out (by decide))
     ·exact FA7.out.far SB7.out (zi3 _ _ _ _ _ _) (fun k hk _=>zhI k hk)
end Go.Proofs.YtmmdlgjmplddiaaGreat
namespace Go.Proofs.YtmmdlgjmplddiaaGreat
open Go.RowKit
structure Tt where
 slot:Int
 op:Int
 other:Int
 val:V
def Tt.R (_:World) (r:List Value) (x:Tt):Prop:=r=[.int .i64 x.slot,.int .i64 x.op,.int .i64 x.other,.int .i64 x.val.kind,.int .i64 x.val.num,.string x.val.sym]
abbrev zcE (q:Option Nat) (w:World) (a:Option Addr) (xs:List Tt):Prop:=zaJ Tt.R q 111 6 w a xs
theorem zcE.below {q:Option Nat}{w w':World}{a:Option Addr}{xs:List Tt} (h:zcE q w a xs) (hb:Below w.heap.size w w'):zcE q w' a xs:=zaJ.below h (fun _ _ _ h=>h) hb
theorem zcE.low {B:Nat}{w w':World}{a:Option Addr}{xs:List Tt} (h:zcE (some B) w a xs) (hb:Low B w w'):zcE (some B) w' a xs:=zaJ.low h (fun _ _ _ h=>h) hb
theorem zcE.get {q:Option Nat}{w:World}{a:Option Addr}{xs:List Tt}{i:Nat}{x:Tt} (h:zcE q w a xs) (hi:xs[i]?=some x):∃ b o,a=some ⟨b,o,none⟩∧Qb q w 111 b∧w.cell? ⟨b,o+i * 6,none⟩=some (.int .i64 x.slot)∧w.cell? ⟨b,o+i * 6+1,none⟩=some (.int .i64 x.op)∧w.cell? ⟨b,o+i * 6+2,none⟩=some (.int .i64 x.other)∧w.cell? ⟨b,o+i * 6+3,none⟩=some (.int .i64 x.val.kind)∧w.cell? ⟨b,o+i * 6+4,none⟩=some (.int .i64 x.val.num)∧w.cell? ⟨b,o+i * 6+5,none⟩=some (.string x.val.sym):=by
 obtain ⟨b,o,r,h1,h2,h3,h4,h5⟩:=h i x hi
 subst h5
 exact ⟨b,o,h1,h2,h4 0 _ rfl,h4 1 _ rfl,h4 2 _ rfl,h4 3 _ rfl,h4 4 _ rfl,h4 5 _ rfl⟩
def Tt.le (N:Nat) (x:Tt):Prop:=x.val.sym.size≤N
structure Al where
 cls:ByteArray
 arity:Int
 tests:List Tt
def Al.R (q:Option Nat) (w:World) (r:List Value) (x:Al):Prop:=∃ a_tests c_tests,r=[.string x.cls,.int .i64 x.arity,.slice a_tests x.tests.length c_tests]∧zcE q w a_tests x.tests
abbrev zjD (q:Option Nat) (w:World) (a:Option Addr) (xs:List Al):Prop:=zaJ (Al.R q) q 57 3 w a xs
theorem zjD.below {q:Option Nat}{w w':World}{a:Option Addr}{xs:List Al} (h:zjD q w a xs) (hb:Below w.heap.size w w'):zjD q w' a xs:=zaJ.below h (fun _ _ _ ⟨a_tests,c_tests,e,h_tests⟩=>⟨a_tests,c_tests,e,h_tests.below hb⟩) hb
theorem zjD.low {B:Nat}{w w':World}{a:Option Addr}{xs:List Al} (h:zjD (some B) w a xs) (hb:Low B w w'):zjD (some B) w' a xs:=zaJ.low h (fun _ _ _ ⟨a_tests,c_tests,e,h_tests⟩=>⟨a_tests,c_tests,e,h_tests.low hb⟩) hb
def Al.le (N:Nat) (x:Al):Prop:=x.cls.size≤N∧zbs Tt.le N x.tests
end Go.Proofs.YtmmdlgjmplddiaaGreat
namespace Go.Proofs.YtmmdlgjmplddiaaGreat
open Go.RowKit
attribute [local go_sem ↓] Go.wp_at_zero Go.wp_at_succ
theorem hidO {p:Prop} (h:p):Hid p:=h
theorem zgT {B n:Nat}{a w:World} (h:Below B a w):Below B a (w.drewN n):=⟨h.os,h.tape,h.output,h.size,h.block⟩
def tmOp (t:Tm):Int:=if t.kind==3 then t.op else 1
def zeZ (name:ByteArray) (t:Tm):Bool:=t.kind==2 && (t.var.toList==name.toList)
def za9 (name:ByteArray):List Tm→Nat→Option Nat
 | [],_=>none
 | t :: r,k=>if zeZ name t then some k else za9 name r (k+1)
def earlier (ts:List Tm) (i:Nat) (name:ByteArray):Option Nat:=za9 name (ts.take i) 0
def atI:Option Nat→Int
 | none=>-1
 | some k=>(k:Int)
def zVa:V:=(0,0,⟨#[]⟩)
def zbx (ts:List Tm) (i:Nat) (t:Tm):Option Tt:=
 if t.kind==0 then none
 else if t.var.toList.isEmpty then some ⟨(i:Int),tmOp t,-1,t.val⟩
 else match earlier ts i t.var with
  | none=>none
  | some k=>some ⟨(i:Int),tmOp t,(k:Int),zVa⟩
def zag (ts:List Tm):Nat→List Tt
 | 0=>[]
 | i+1=>zag ts i ++ (match ts[i]? with | none=>[] | some t=>(zbx ts i t).toList)
def zaB (p:Pt):Al:=if gPt p then ⟨p.cls,(p.terms.length:Int),zag p.terms p.terms.length⟩ else ⟨⟨#[]⟩,0,[]⟩
theorem zbk (name:ByteArray) (t:Tm) (r:List Tm) (k:Nat):za9 name (t :: r) k=if zeZ name t then some k else za9 name r (k+1):=rfl
set_option maxHeartbeats 400000 in
theorem zet (t:Tm) (w:World) :
  Calls Tryz.prog 105 #[.agg #[.int .i64 t.kind,.int .i64 t.op,.string t.var,.int .i64 t.val.kind,.int .i64 t.val.num,.string t.val.sym]] w fun e w'=>e=.returned (.int .i64 (tmOp t))∧Below w.heap.size w w':=by
 by_cases h3:t.kind=3
 ·rw [h3]
  go_enter Tryz.func105,Tryz.ntmps105
  go_wp2
  go_ret
  exact ⟨by simp [tmOp,h3],(Below.refl _ _).alloc (Nat.le_refl _) _⟩
 ·go_enter Tryz.func105,Tryz.ntmps105
  go_wp2
  go_ret
  exact ⟨by simp [tmOp,h3],(Below.refl _ _).alloc (Nat.le_refl _) _⟩
set_option maxHeartbeats 1600000 in
theorem zhP (p:Pt) (a_terms:Option Addr) (c_terms:Nat) {q:Option Nat} (i:Nat) (ti:Tm) (w:World) (h_terms:zch q w a_terms p.terms) (hi:p.terms[i]?=some ti) (hl:p.terms.length≤1048576) (hcp:p.terms.length≤c_terms) :
  Calls Tryz.prog 104 #[.agg #[.bool p.neg,.string p.cls,.slice a_terms p.terms.length c_terms],.int .i64 (i:Int)] w fun e w'=>e=.returned (.int .i64 (atI (earlier p.terms i ti.var)))∧Below w.heap.size w w':=by
 have B0:∀ o,Below w.heap.size w (w.alloc o):=fun o=>(Below.refl _ _).alloc (Nat.le_refl _) _
 have hil:i<p.terms.length:=(List.getElem?_eq_some_iff.1 hi).1
 have hlen:(p.terms.take i).length=i:=by simp;omega
 have y0:(0:Int)≤(i:Int):=by omega
 have y1:(i:Int)≤(c_terms:Int):=by omega
 have y2:(i:Int)<(p.terms.length:Int):=by omega
 obtain ⟨bi,oi,ei,_,i0,i1,i2,i3,i4,i5⟩:=h_terms.get hi
 subst ei
 have HI2:=hidO i2
 clear i0 i1 i2 i3 i4 i5
 go_enter Tryz.func104,Tryz.ntmps104
 go_wp2
 go_loopw [12] (fun v wr=>∃ (k:Nat),k≤i∧v=.int .i64 k∧earlier p.terms i ti.var=za9 ti.var ((p.terms.take i).drop k) k∧wr.cell? ⟨w.heap.size,2,none⟩=some (.slice (some ⟨bi,oi,none⟩) p.terms.length c_terms)∧Below w.heap.size w wr) (fun v _=>i - (intOf v).toNat)
 case atStart=>exact ⟨0,by omega,rfl,rfl,by simp [go_sem],B0 _⟩
 case round=>
  obtain ⟨k,hk,rfl,hG,hc2,hb⟩:=hrel
  have HG:=hidO hG
  clear hG
  by_cases hkl:k<i
  ·obtain ⟨t,htk⟩:∃ t,p.terms[k]?=some t:=⟨p.terms[k]'(by omega),by simp⟩
   have htk':(p.terms.take i)[k]?=some t:=by rw [List.getElem?_take,if_pos hkl,htk]
   have HD:Hid ((p.terms.take i).drop k=t :: (p.terms.take i).drop (k+1)):=zan htk'
   obtain ⟨b,o,ea,hq,c0,c1,c2,c3,c4,c5⟩:=(h_terms.below hb).get htk
   cases ea
   have R1:∀ o,Below wr.heap.size wr (wr.alloc o):=fun o=>(Below.refl _ _).alloc (Nat.le_refl _) _
   have z0:(0:Int)≤(k:Int):=by omega
   have z1:(k:Int)<(i:Int):=by omega
   have hc2':=fun o=>zaa (R1 o) hc2
   have hi2':=fun o=>zaa (R1 o) (zaa hb HI2.out)
   by_cases k2:t.kind=2
   ·rw [k2] at c0
    have hk2:((2:Int)==2)=true:=rfl
    cases hn:(t.var.toList==ti.var.toList)
    all_goals
     go_wp2
     go_quiet (fail)
     go_wp2
    ·have HX:Hid (earlier p.terms i ti.var=za9 ti.var ((p.terms.take i).drop (k+1)) (k+1)):=show earlier p.terms i ti.var=_ from by rw [HG.out,HD.out,zbk];simp [zeZ,hn]
     go_roundw
     case rel=>exact ⟨k+1,by omega,by go_num,HX.out,hc2' _,zgT (hb.alloc hb.size _)⟩
     case measure=>simp [intOf];omega
    ·have HX:Hid (earlier p.terms i ti.var=some k):=show earlier p.terms i ti.var=_ from by rw [HG.out,HD.out,zbk];simp [zeZ,k2,hn]
     go_ret
     exact ⟨zaX (by rw [HX.out];rfl),zgT (hb.alloc hb.size _)⟩
   ·have HX:Hid (earlier p.terms i ti.var=za9 ti.var ((p.terms.take i).drop (k+1)) (k+1)):=show earlier p.terms i ti.var=_ from by rw [HG.out,HD.out,zbk];simp [zeZ,k2]
    have hk2:(t.kind==2)=false:=by simpa using k2
    go_wp2
    go_quiet (fail)
    go_wp2
    go_roundw
    case rel=>exact ⟨k+1,by omega,by go_num,HX.out,hc2' _,zgT (hb.alloc hb.size _)⟩
    case measure=>simp [intOf];omega
  ·have z1:¬ (k:Int)<(i:Int):=by omega
   go_wp2
   go_ret
   exact ⟨zaX (by rw [HG.out,List.drop_eq_nil_of_le (by omega)];rfl),hb⟩
end Go.Proofs.YtmmdlgjmplddiaaGreat
