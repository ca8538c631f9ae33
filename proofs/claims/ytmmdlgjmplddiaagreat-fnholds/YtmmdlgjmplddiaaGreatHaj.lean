/-
  OUR OWN TEXT. Spec4, Spec5, Impl2, Impl3, Sv, Rd, Mt, Mark0, Ofs, Cpy, Mk, Hd, Sp6, Sp7, Pl, Wo, Ret, Chg, Mf, Hf, Tw, LawR, Ti, one behind the other.
-/
import Derived.Test.YtmmdlgjmplddiaaGreatHai
import Derived.Deep.RegionHeld3
import Derived.Deep.QuietTactic
import Derived.BigQuiet
import Derived.Deep.DrawnRows
import Derived.Test.YtmmdlgjmplddiaaGreatHah
import Derived.Test.YtmmdlgjmplddiaaGreatHaa
import Derived.Deep.Slices
import Derived.Deep.Strs
import Derived.Lib.SmallJoins
import Derived.Laws.BytesArg
import Derived.Maps.RangeWalk
namespace Go.Proofs.YtmmdlgjmplddiaaGreat
open Go.RowKit
theorem zh2 (fs:List F) (nx cp:Int):zeE fs nx cp=false →
  (cp<0)∨(0≤cp∧40<cp)∨(0≤cp∧cp≤40∧cp<fs.length)∨(0≤cp∧cp≤40∧(fs.length:Int)≤cp∧zaS fs=false)∨(0≤cp∧cp≤40∧(fs.length:Int)≤cp∧zaS fs=true∧nx<1)∨(0≤cp∧cp≤40∧(fs.length:Int)≤cp∧zaS fs=true∧1≤nx∧1000001<nx):=by
 intro h
 unfold zeE at h
 cases hg:zaS fs
 ·simp only [hg,Bool.false_and,Bool.and_false] at h
  simp only [Bool.false_eq_true,false_and,and_false,or_false,and_true]
  omega
 ·simp only [hg,Bool.true_and,Bool.and_eq_false_iff,decide_eq_false_iff_not] at h
  simp only [true_and]
  omega
set_option maxHeartbeats 1600000 in
theorem zfn (a:Option Addr) (c:Nat) (fs:List F) (nx cp:Int) (sg:Bool) (w:World) (hv:zaG w a fs) (hl:fs.length≤1048576) (hs:∀ f∈fs,Sized f) (hh:zeE fs nx cp=false) :
  Calls Tryz.prog 86 #[.agg #[.slice a fs.length c,.int .i64 nx,.int .i64 cp,.bool sg]] w fun e w'=>
   e=.returned (.bool (zbw fs nx cp sg))∧Below w.heap.size w w':=by
 have HR:Hid (zbw fs nx cp sg=false):=by unfold zbw;rw [hh];exact rfl
 have B1:∀ o,Below w.heap.size w (w.alloc o):=fun o=>(Below.refl _ _).alloc (Nat.le_refl _) _
 rcases zh2 fs nx cp hh with h1 | ⟨h1,h2⟩ | ⟨h1,h2,h3⟩ | ⟨h1,h2,h3,h4⟩ | ⟨h1,h2,h3,h4,h5⟩ | ⟨h1,h2,h3,h4,h5,h6⟩
 all_goals
  clear hh
  go_enter Tryz.func86,Tryz.ntmps86
  go_wp2_with (go_at_call 64;refine (zb3 a c fs _ (hv.below (B1 _)) hl hs).mono ?_;rintro e w' ⟨rfl,hb'⟩;obtain ⟨hc,hf⟩:=bcell hb')
  go_ret
  first
  | exact ⟨zac HR.out.symm,B1 _⟩
  | exact ⟨zac HR.out.symm,(B1 _).trans (hb'.mono (by simp))⟩
end Go.Proofs.YtmmdlgjmplddiaaGreat
namespace Go.Proofs.YtmmdlgjmplddiaaGreat
open Go.RowKit
theorem zhC {sg:Bool}{f g:F}{l:List F}{m:Nat} (h:l[m]?=some g):pre1 sg f (l.drop m)=(zcp sg f g && pre1 sg f (l.drop (m+1))):=by
 rw [zan h]
 rfl
set_option maxHeartbeats 1600000 in
theorem zeC (a:Option Addr) (c:Nat) (fs:List F) (nx cp:Int) (w:World) (hv:zaG w a fs) (hl:fs.length≤c) (hs:∀ f∈fs,Sized f) (hh:zeE fs nx cp=true) :
  Calls Tryz.prog 86 #[.agg #[.slice a fs.length c,.int .i64 nx,.int .i64 cp,.bool true]] w fun e w'=>
   e=.returned (.bool (zbw fs nx cp true))∧Below w.heap.size w w':=by
 have B1:∀ o,Below w.heap.size w (w.alloc o):=fun o=>(Below.refl _ _).alloc (Nat.le_refl _) _
 have HR:Hid (zbw fs nx cp true=pairs true nx [] fs):=by unfold zbw;rw [hh];exact rfl
 obtain ⟨h1,h2,h3,h4,h5,h6⟩:0≤cp∧cp≤40∧(fs.length:Int)≤cp∧zaS fs=true∧1≤nx∧nx≤1000001:=by
  unfold zeE at hh
  simpa [Bool.and_eq_true] using hh
 clear hh
 go_enter Tryz.func86,Tryz.ntmps86
 go_wp2_with (go_at_call 64;refine (zb3 a c fs _ (hv.below (B1 _)) (by omega) hs).mono ?_;rintro e w' ⟨rfl,hb'⟩;obtain ⟨hc,hf⟩:=bcell hb')
 have q0:w'.cell? ⟨w.heap.size,0,none⟩=some (.slice a fs.length c):=by rw [hc _ _ (by simp)];simp [go_sem]
 have q1:w'.cell? ⟨w.heap.size,1,none⟩=some (.int .i64 nx):=by rw [hc _ _ (by simp)];simp [go_sem]
 have q3:w'.cell? ⟨w.heap.size,3,none⟩=some (.bool true):=by rw [hc _ _ (by simp)];simp [go_sem]
 have hB:Below w.heap.size w w':=(B1 _).trans (hb'.mono (by simp))
 have hz:w.heap.size<w'.heap.size:=by have:=hb'.size;simp at this;omega
 clear hc hf hb' B1
 go_loopw [42] (fun i wr=>∃ (k:Nat),k≤fs.length∧i=.int .i64 k∧zbw fs nx cp true=pairs true nx (fs.take k) (fs.drop k)∧Below w'.heap.size w' wr) (fun i _=>fs.length - (intOf i).toNat)
 case atStart=>exact ⟨0,by omega,rfl,HR.out,Below.refl _ _⟩
 case round=>
  obtain ⟨wo,rfl⟩:∃ x,x=wr:=⟨wr,rfl⟩
  obtain ⟨k,hk,rfl,hG,hb⟩:=hrel
  have HG:Hid (zbw fs nx cp true=pairs true nx (fs.take k) (fs.drop k)):=hG
  clear hG
  have r0:=zaa hb q0
  have r1:=zaa hb q1
  have r3:=zaa hb q3
  have hz':w.heap.size<wo.heap.size:=Nat.lt_of_lt_of_le hz hb.size
  by_cases hkl:k<fs.length
  ·obtain ⟨f,hfk⟩:∃ f,fs[k]?=some f:=⟨fs[k],by simp [hkl]⟩
   have HD:Hid (fs.drop k=f :: fs.drop (k+1)):=zan hfk
   have hvr:=(hv.below hB).below hb
   obtain ⟨b,o,rfl,c0,c1,s,cs,c2,hsl⟩:=hvr k f hfk
   by_cases h7:nx≤f.tag
   ·go_wp2
    go_ret
    exact ⟨zac (by rw [HG.out,HD.out,pairs,decide_eq_false (by omega)];rfl),hB.trans (((hb.alloc hb.size _)).mono (by omega))⟩
   ·have W1c:∀ o,Below wo.heap.size wo (wo.alloc o):=fun o=>(Below.refl _ _).alloc (Nat.le_refl _) _
    go_wp2
    go_loopw [57] (fun j w2=>∃ (m:Nat),m≤k∧j=.int .i64 m∧pre1 true f (fs.take k)=pre1 true f ((fs.take k).drop m)∧Below (wo.heap.size+1) (wo.alloc (.cells #[.int .i64 f.tag,.string f.cls,.slice s f.slots.length cs] 42)) w2) (fun j _=>k - (intOf j).toNat)
    case atStart=>exact ⟨0,by omega,rfl,rfl,Below.refl _ _⟩
    case round=>
     obtain ⟨m,hm,rfl,hP,hb2⟩:=hrel
     have HP:Hid (pre1 true f (fs.take k)=pre1 true f ((fs.take k).drop m)):=hP
     clear hP
     have hb2':=hb2
     rw [← World.size_alloc] at hb2'
     have hbw:Below wo.heap.size wo wr:=(W1c _).trans (hb2'.mono (by simp))
     have s1:wr.cell? ⟨wo.heap.size,1,none⟩=some (.string f.cls):=zaa hb2' (by simp [go_sem])
     have s2:wr.cell? ⟨wo.heap.size,2,none⟩=some (.slice s f.slots.length cs):=zaa hb2' (by simp [go_sem])
     have t3:=zaa hbw r3
     have hz2:wo.heap.size<wr.heap.size:=by have:=hb2'.size;simp at this;omega
     have hz3:w.heap.size<wr.heap.size:=by omega
     by_cases hml:m<k
     ·obtain ⟨g,hgm⟩:∃ g,fs[m]?=some g:=⟨fs[m],by simp⟩
      have HQ:Hid (pre1 true f ((fs.take k).drop m)=(zcp true f g && pre1 true f ((fs.take k).drop (m+1)))):=zhC (by rw [List.getElem?_take_of_lt hml];exact hgm)
      obtain ⟨b',o',he',d0,d1,s',cs',d2,hsl'⟩:=(hvr.below hbw) m g hgm
      simp only [Option.some.injEq,Addr.mk.injEq,and_true] at he'
      obtain ⟨rfl,rfl⟩:=he'
      obtain ⟨_,HS,_⟩:=hs f (List.mem_of_getElem? hfk)
      have hsl2:=hsl.below hbw
      have hbo:∀ o,Below wr.heap.size wr (wr.alloc o):=fun o=>(Below.refl _ _).alloc (Nat.le_refl _) _
      cases hcl:(g.cls.toList==f.cls.toList)
      ·have HK:Hid (zcp true f g=true):=by
        rw [zaM] at hcl
        unfold zcp
        rw [hcl]
        exact rfl
       go_wp2
       go_roundw
       case rel=>exact ⟨m+1,by omega,by go_num,by rw [HP.out,HQ.out,HK.out];rfl,hb2.alloc (by omega) _⟩
       case measure=>simp [intOf];omega
      ·cases hss:decide (f.slots=g.slots)
       ·have HK:Hid (zcp true f g=true):=(show zcp true f g=true from by unfold zcp;rw [hss];simp)
        go_wp2_with (go_at_call 124;refine (zb1 s s' cs cs' f.slots g.slots _ (hsl2.below (hbo _)) (hsl'.below (hbo _)) HS).mono ?_;rintro e w3 ⟨rfl,hb3⟩)
        go_roundw
        case rel=>exact ⟨m+1,by omega,by go_num,by rw [HP.out,HQ.out,HK.out];rfl,(hb2.alloc (by omega) _).trans (hb3.mono (by simp;omega))⟩
        case measure=>simp [intOf];omega
       ·have HK:Hid (zcp true f g=false):=by
         rw [zaM] at hcl
         unfold zcp
         rw [hcl,hss]
         exact rfl
        go_wp2_with (go_at_call 124;refine (zb1 s s' cs cs' f.slots g.slots _ (hsl2.below (hbo _)) (hsl'.below (hbo _)) HS).mono ?_;rintro e w3 ⟨rfl,hb3⟩)
        go_ret
        refine ⟨zac ?_,hB.trans ((hb.mono (by omega)).trans ((hbw.alloc (by omega) _).trans (hb3.mono (by simp;omega)) |>.mono ?_))⟩
        ·rw [HG.out,HD.out,pairs,HP.out,HQ.out,HK.out]
         simp
        ·have:=hb.size
         omega
     ·go_wp2
      go_roundw
      case rel=>
       refine ⟨k+1,by omega,by go_num,?_,hb.trans (hbw.mono hb.size)⟩
       rw [HG.out,HD.out,pairs,HP.out,List.drop_eq_nil_of_le (by simp;omega),decide_eq_true (by omega),zbV fs k f hfk]
       rfl
      case measure=>simp [intOf];omega
  ·go_wp2
   go_ret
   exact ⟨zac (by rw [HG.out,List.drop_eq_nil_of_le (by omega),pairs]),hB.trans (hb.mono (by omega))⟩
set_option maxHeartbeats 1600000 in
theorem zei (a:Option Addr) (c:Nat) (fs:List F) (nx cp:Int) (w:World) (hv:zaG w a fs) (hl:fs.length≤c) (hs:∀ f∈fs,Sized f) (hh:zeE fs nx cp=true) :
  Calls Tryz.prog 86 #[.agg #[.slice a fs.length c,.int .i64 nx,.int .i64 cp,.bool false]] w fun e w'=>
   e=.returned (.bool (zbw fs nx cp false))∧Below w.heap.size w w':=by
 have B1:∀ o,Below w.heap.size w (w.alloc o):=fun o=>(Below.refl _ _).alloc (Nat.le_refl _) _
 have HR:Hid (zbw fs nx cp false=pairs false nx [] fs):=by unfold zbw;rw [hh];exact rfl
 obtain ⟨h1,h2,h3,h4,h5,h6⟩:0≤cp∧cp≤40∧(fs.length:Int)≤cp∧zaS fs=true∧1≤nx∧nx≤1000001:=by
  unfold zeE at hh
  simpa [Bool.and_eq_true] using hh
 clear hh
 go_enter Tryz.func86,Tryz.ntmps86
 go_wp2_with (go_at_call 64;refine (zb3 a c fs _ (hv.below (B1 _)) (by omega) hs).mono ?_;rintro e w' ⟨rfl,hb'⟩;obtain ⟨hc,hf⟩:=bcell hb')
 have q0:w'.cell? ⟨w.heap.size,0,none⟩=some (.slice a fs.length c):=by rw [hc _ _ (by simp)];simp [go_sem]
 have q1:w'.cell? ⟨w.heap.size,1,none⟩=some (.int .i64 nx):=by rw [hc _ _ (by simp)];simp [go_sem]
 have q3:w'.cell? ⟨w.heap.size,3,none⟩=some (.bool false):=by rw [hc _ _ (by simp)];simp [go_sem]
 have hB:Below w.heap.size w w':=(B1 _).trans (hb'.mono (by simp))
 have hz:w.heap.size<w'.heap.size:=by have:=hb'.size;simp at this;omega
 clear hc hf hb' B1
 go_loopw [42] (fun i wr=>∃ (k:Nat),k≤fs.length∧i=.int .i64 k∧zbw fs nx cp false=pairs false nx (fs.take k) (fs.drop k)∧Below w'.heap.size w' wr) (fun i _=>fs.length - (intOf i).toNat)
 case atStart=>exact ⟨0,by omega,rfl,HR.out,Below.refl _ _⟩
 case round=>
  obtain ⟨wo,rfl⟩:∃ x,x=wr:=⟨wr,rfl⟩
  obtain ⟨k,hk,rfl,hG,hb⟩:=hrel
  have HG:Hid (zbw fs nx cp false=pairs false nx (fs.take k) (fs.drop k)):=hG
  clear hG
  have r0:=zaa hb q0
  have r1:=zaa hb q1
  have r3:=zaa hb q3
  have hz':w.heap.size<wo.heap.size:=Nat.lt_of_lt_of_le hz hb.size
  by_cases hkl:k<fs.length
  ·obtain ⟨f,hfk⟩:∃ f,fs[k]?=some f:=⟨fs[k],by simp [hkl]⟩
   have HD:Hid (fs.drop k=f :: fs.drop (k+1)):=zan hfk
   have hvr:=(hv.below hB).below hb
   obtain ⟨b,o,rfl,c0,c1,s,cs,c2,hsl⟩:=hvr k f hfk
   by_cases h7:nx≤f.tag
   ·go_wp2
    go_ret
    exact ⟨zac (by rw [HG.out,HD.out,pairs,decide_eq_false (by omega)];rfl),hB.trans (((hb.alloc hb.size _)).mono (by omega))⟩
   ·have W1c:∀ o,Below wo.heap.size wo (wo.alloc o):=fun o=>(Below.refl _ _).alloc (Nat.le_refl _) _
    go_wp2
    go_loopw [57] (fun j w2=>∃ (m:Nat),m≤k∧j=.int .i64 m∧pre1 false f (fs.take k)=pre1 false f ((fs.take k).drop m)∧Below (wo.heap.size+1) (wo.alloc (.cells #[.int .i64 f.tag,.string f.cls,.slice s f.slots.length cs] 42)) w2) (fun j _=>k - (intOf j).toNat)
    case atStart=>exact ⟨0,by omega,rfl,rfl,Below.refl _ _⟩
    case round=>
     obtain ⟨m,hm,rfl,hP,hb2⟩:=hrel
     have HP:Hid (pre1 false f (fs.take k)=pre1 false f ((fs.take k).drop m)):=hP
     clear hP
     have hb2':=hb2
     rw [← World.size_alloc] at hb2'
     have hbw:Below wo.heap.size wo wr:=(W1c _).trans (hb2'.mono (by simp))
     have s1:wr.cell? ⟨wo.heap.size,1,none⟩=some (.string f.cls):=zaa hb2' (by simp [go_sem])
     have s2:wr.cell? ⟨wo.heap.size,2,none⟩=some (.slice s f.slots.length cs):=zaa hb2' (by simp [go_sem])
     have t3:=zaa hbw r3
     have hz2:wo.heap.size<wr.heap.size:=by have:=hb2'.size;simp at this;omega
     have hz3:w.heap.size<wr.heap.size:=by omega
     by_cases hml:m<k
     ·obtain ⟨g,hgm⟩:∃ g,fs[m]?=some g:=⟨fs[m],by simp⟩
      have HQ:Hid (pre1 false f ((fs.take k).drop m)=(zcp false f g && pre1 false f ((fs.take k).drop (m+1)))):=zhC (by rw [List.getElem?_take_of_lt hml];exact hgm)
      obtain ⟨b',o',he',d0,d1,s',cs',d2,hsl'⟩:=(hvr.below hbw) m g hgm
      simp only [Option.some.injEq,Addr.mk.injEq,and_true] at he'
      obtain ⟨rfl,rfl⟩:=he'
      have HK:Hid (zcp false f g=true):=by unfold zcp;exact rfl
      go_wp2
      go_roundw
      case rel=>exact ⟨m+1,by omega,by go_num,by rw [HP.out,HQ.out,HK.out];rfl,hb2.alloc (by omega) _⟩
      case measure=>simp [intOf];omega
     ·go_wp2
      go_roundw
      case rel=>
       refine ⟨k+1,by omega,by go_num,?_,hb.trans (hbw.mono hb.size)⟩
       rw [HG.out,HD.out,pairs,HP.out,List.drop_eq_nil_of_le (by simp;omega),decide_eq_true (by omega),zbV fs k f hfk]
       rfl
      case measure=>simp [intOf];omega
  ·go_wp2
   go_ret
   exact ⟨zac (by rw [HG.out,List.drop_eq_nil_of_le (by omega),pairs]),hB.trans (hb.mono (by omega))⟩
theorem zb8 (a:Option Addr) (c:Nat) (fs:List F) (nx cp:Int) (sg:Bool) (w:World) (hv:zaG w a fs) (hl:fs.length≤c) (hl':fs.length≤1048576) (hs:∀ f∈fs,Sized f) :
  Calls Tryz.prog 86 #[.agg #[.slice a fs.length c,.int .i64 nx,.int .i64 cp,.bool sg]] w fun e w'=>
   e=.returned (.bool (zbw fs nx cp sg))∧Below w.heap.size w w':=by
 cases hh:zeE fs nx cp
 ·exact zfn a c fs nx cp sg w hv hl' hs hh
 ·cases sg
  ·exact zei a c fs nx cp w hv hl hs hh
  ·exact zeC a c fs nx cp w hv hl hs hh
end Go.Proofs.YtmmdlgjmplddiaaGreat
namespace Go.Proofs.YtmmdlgjmplddiaaGreat
open Go.RowKit
attribute [local go_sem ↓] Go.wp_at_zero Go.wp_at_succ
def Read (f:F):Prop:=(Lit.int .i64 f.tag).wf=true∧∀ v∈f.slots,VOk v
end Go.Proofs.YtmmdlgjmplddiaaGreat
namespace Go.Proofs.YtmmdlgjmplddiaaGreat
open Go.RowKit
attribute [local go_sem ↓] Go.wp_at_zero Go.wp_at_succ
end Go.Proofs.YtmmdlgjmplddiaaGreat
namespace Go.Proofs.YtmmdlgjmplddiaaGreat
open Go.RowKit
attribute [local go_sem ↓] Go.wp_at_zero Go.wp_at_succ
end Go.Proofs.YtmmdlgjmplddiaaGreat
namespace Go.Proofs.YtmmdlgjmplddiaaGreat
open Go.RowKit Go.Deep
section
variable {H : Type} {enc : TypeId × Value → H} {w : World} {base : Nat} {spare : Nat → Bool} {held : Bool}
end
end Go.Proofs.YtmmdlgjmplddiaaGreat
namespace Go.Proofs.YtmmdlgjmplddiaaGreat
open Go.RowKit
end Go.Proofs.YtmmdlgjmplddiaaGreat
namespace Go.Proofs.YtmmdlgjmplddiaaGreat
open Go.RowKit
def frows (fs:List F) (xs:List Value):List Value:=(fs.zip xs).flatMap fun p=>fcells p.1 p.2
theorem Apart.symm {x y:Value} (h:Apart x y):Apart y x:=fun g hy hx=>h g hx hy
theorem zdD {w:World}{base:Nat}{e:TypeId}{m:Nat}{a:Option Addr}{n c:Nat}{xs:List Value} (h:w.ownsRow base e m (.slice a n c) n xs):n≤c:=by
 rcases h.2 with ⟨_,h1⟩ | ⟨g,cap,cur,hv,_,_,hn,_⟩
 ·omega
 ·cases hv
  exact hn
structure OFs (w:World) (base:Nat) (v:Value) (n:Nat) (fs:List F) (xs:List Value):Prop where
 num:n=fs.length
 len:xs.length=fs.length
 own:w.ownsRow base 42 3 v n (frows fs xs)
 each:∀ (i:Nat) (f:F) (x:Value),fs[i]?=some f→xs[i]?=some x→(∃ a c,x=.slice a f.slots.length c)∧w.ownsRow base 109 3 x f.slots.length (f.slots.flatMap V.cells)
 apart:∀ x∈xs,Apart v x
 pair:xs.Pairwise Apart
def znC (v:Value) (xs:List Value) (g:Nat):Prop:=v.ownBlock=some g∨∃ x∈xs,x.ownBlock=some g
theorem OFs.each' {w:World}{base:Nat}{v:Value}{n:Nat}{fs:List F}{xs:List Value} (h:OFs w base v n fs xs) {x:Value} (hx:x∈xs):∃ f∈fs,w.ownsRow base 109 3 x f.slots.length (f.slots.flatMap V.cells):=by
 obtain ⟨i,hi,rfl⟩:=List.getElem_of_mem hx
 have hf:i<fs.length:=by rw [← h.len];exact hi
 exact ⟨fs[i],List.getElem_mem hf,(h.each i _ _ (List.getElem?_eq_getElem hf) (List.getElem?_eq_getElem hi)).2⟩
theorem OFs.range {w:World}{base:Nat}{v:Value}{n:Nat}{fs:List F}{xs:List Value} (h:OFs w base v n fs xs) {g:Nat} (hg:znC v xs g):base≤g∧g<w.heap.size:=by
 rcases hg with hg | ⟨x,hx,hg⟩
 ·exact h.own.lt g hg
 ·obtain ⟨f,_,ho⟩:=h.each' hx
  exact ho.lt g hg
theorem OFs.kept {w w':World}{base:Nat}{v:Value}{n:Nat}{fs:List F}{xs:List Value} (h:OFs w base v n fs xs) (hb:∀ g,znC v xs g→w'.heap[g]?=w.heap[g]?):OFs w' base v n fs xs:=
 ⟨h.num,h.len,zaf h.own (fun g hg=>hb g (.inl hg)),fun i f x hf hx=>⟨(h.each i f x hf hx).1,zaf (h.each i f x hf hx).2 (fun g hg=>hb g (.inr ⟨x,List.mem_of_getElem? hx,hg⟩))⟩,h.apart,h.pair⟩
theorem OFs.below {w w':World}{base:Nat}{v:Value}{n:Nat}{fs:List F}{xs:List Value} (h:OFs w base v n fs xs) (hb:Below w.heap.size w w'):OFs w' base v n fs xs:=
 h.kept fun g hg=>hb.block g (h.range hg).2
theorem OFs.lower {w:World}{base base':Nat}{v:Value}{n:Nat}{fs:List F}{xs:List Value} (h:OFs w base v n fs xs) (hb:base'≤base):OFs w base' v n fs xs:=
 ⟨h.num,h.len,zar h.own hb,fun i f x hf hx=>⟨(h.each i f x hf hx).1,zar (h.each i f x hf hx).2 hb⟩,h.apart,h.pair⟩
theorem OFs.set {w:World}{base:Nat}{v:Value}{n:Nat}{fs:List F}{xs:List Value} (h:OFs w base v n fs xs) {p:Addr} (hp:p.block<base) (u:Value):OFs (w.setCell p u) base v n fs xs:=
 h.kept fun g hg=>Below.heap_setCell _ _ _ _ (by have:=(h.range hg).1;omega)
theorem OFs.nil (w:World) (base:Nat):OFs w base (.slice none 0 0) 0 [] []:=
 ⟨rfl,rfl,World.ownsRow_nil _ _ _ _,fun i f x hf=>by simp at hf,fun x hx=>by simp at hx,List.Pairwise.nil⟩
theorem zdK:∀ (fs:List F) (xs:List Value),xs.length=fs.length→∀ (i:Nat) (f:F) (x:Value),fs[i]?=some f→xs[i]?=some x→∀ j,j<3→(frows fs xs)[i * 3+j]?=(fcells f x)[j]?
 | [],_,_,i,f,x,hf,_,_,_=>by simp at hf
 | g :: fs,[],h,_,_,_,_,_,_,_=>by simp at h
 | g :: fs,y :: xs,h,i,f,x,hf,hx,j,hj=>by
  unfold frows
  rw [List.zip_cons_cons,List.flatMap_cons]
  cases i with
  | zero=>
   simp at hf hx
   subst hf
   subst hx
   rw [List.getElem?_append_left (by simpa [fcells] using hj)]
   simp
  | succ i=>
   rw [List.getElem?_append_right (by simp [fcells];omega)]
   have:=zdK fs xs (by simpa using h) i f x (by simpa using hf) (by simpa using hx) j hj
   unfold frows at this
   rw [← this]
   congr 1
   simp [fcells]
   omega
theorem zf8 (fs:List F) (xs:List Value) (h:xs.length=fs.length) (f:F) (x:Value):frows (fs ++ [f]) (xs ++ [x])=frows fs xs ++ fcells f x:=by
 unfold frows
 rw [List.zip_append h.symm,List.flatMap_append]
 simp
theorem zaY.owns {w:World}{base:Nat}{a:Option Addr}{c:Nat}{vs:List V} (h:w.ownsRow base 109 3 (.slice a vs.length c) vs.length (vs.flatMap V.cells)):zaY w a vs:=by
 intro i v hv
 have hi:i<vs.length:=(List.getElem?_eq_some_iff.1 hv).1
 have key:∀ j x,j<3→v.cells[j]?=some x→(vs.flatMap V.cells)[i * 3+j]?=some x:=by
  intro j x hj hx
  have hlen:i * 3+j<(vs.flatMap V.cells).length:=by rw [zi2];omega
  obtain ⟨u,h1,h2⟩:=zko vs (i * 3+j) _ (List.getElem?_eq_getElem hlen)
  rw [show (i * 3+j) / 3=i by omega,hv] at h1
  cases h1
  rw [show (i * 3+j) % 3=j by omega,hx] at h2
  rw [List.getElem?_eq_getElem hlen,h2]
 obtain ⟨g,rfl,_,h0,_⟩:=zam h (key 0 _ (by omega) rfl)
 obtain ⟨g1,he1,_,h1,_⟩:=zam h (key 1 _ (by omega) rfl)
 obtain ⟨g2,he2,_,h2,_⟩:=zam h (key 2 _ (by omega) rfl)
 cases he1
 cases he2
 exact ⟨g,0,rfl,by simpa using h0,by simpa using h1,by simpa using h2⟩
theorem OFs.at {w:World}{base:Nat}{a:Option Addr}{n c:Nat}{fs:List F}{xs:List Value} (h:OFs w base (.slice a n c) n fs xs):zaG w a fs:=by
 intro i f hf
 have hi:i<fs.length:=(List.getElem?_eq_some_iff.1 hf).1
 have hx:xs[i]?=some (xs[i]'(by rw [h.len];exact hi)):=List.getElem?_eq_getElem _
 obtain ⟨⟨a',c',e⟩,ho⟩:=h.each i f _ hf hx
 have key:=fun j (hj:j<3)=>zdK fs xs h.len i f _ hf hx j hj
 obtain ⟨g,rfl,_,h0,_⟩:=zam h.own ((key 0 (by omega)).trans rfl)
 obtain ⟨g1,he1,_,h1,_⟩:=zam h.own ((key 1 (by omega)).trans rfl)
 obtain ⟨g2,he2,_,h2,_⟩:=zam h.own ((key 2 (by omega)).trans rfl)
 cases he1
 cases he2
 rw [e] at h2 ho
 exact ⟨g,0,rfl,by simpa using h0,by simpa using h1,a',c',by simpa using h2,zaY.owns ho⟩
theorem OFs.snoc {w w':World}{base:Nat}{v v':Value}{n:Nat}{fs:List F}{xs:List Value}{f:F}{x:Value} (h:OFs w base v n fs xs) (hx:(∃ a c,x=.slice a f.slots.length c)∧w.ownsRow base 109 3 x f.slots.length (f.slots.flatMap V.cells))
  (hxv:Apart v x) (hxs:∀ y∈xs,Apart y x) (ho:w'.ownsRow base 42 3 v' (n+1) (frows fs xs ++ fcells f x)) (hg:w.grownBy w' v.ownBlock) (hl:v'.ownBlock=v.ownBlock∨v'.ownBlock=some w.heap.size):OFs w' base v' (n+1) (fs ++ [f]) (xs ++ [x]):=by
 have hblk:∀ y:Value,(y∈xs∨y=x)→∀ g,y.ownBlock=some g→g<w.heap.size∧w'.heap[g]?=w.heap[g]?:=by
  intro y hy g hgy
  have hlt:g<w.heap.size:=by
   rcases hy with hy | rfl
   ·exact (h.range (.inr ⟨y,hy,hgy⟩)).2
   ·exact (hx.2.lt g hgy).2
  refine ⟨hlt,hg.block g hlt ?_⟩
  intro e
  rcases hy with hy | rfl
  ·exact h.apart y hy g e.symm hgy
  ·exact hxv g e.symm hgy
 have hapart:∀ y:Value,(y∈xs∨y=x)→Apart v' y:=by
  intro y hy g hgv hgy
  rcases hl with hl | hl
  ·rw [hl] at hgv
   rcases hy with hy | rfl
   ·exact h.apart y hy g hgv hgy
   ·exact hxv g hgv hgy
  ·rw [hl] at hgv
   cases hgv
   have:=(hblk y hy _ hgy).1
   omega
 refine ⟨by simp [h.num],by simp [h.len],by rw [zf8 fs xs h.len];exact ho,?_,?_,?_⟩
 ·intro i f' y hf hy
  by_cases hi:i<fs.length
  ·rw [List.getElem?_append_left hi] at hf
   rw [List.getElem?_append_left (by rw [h.len];exact hi)] at hy
   obtain ⟨h1,h2⟩:=h.each i f' y hf hy
   exact ⟨h1,zaf h2 (fun g hgy=>(hblk y (.inl (List.mem_of_getElem? hy)) g hgy).2)⟩
  ·have hil:i<(fs ++ [f]).length:=(List.getElem?_eq_some_iff.1 hf).1
   simp at hil
   obtain rfl:i=fs.length:=by omega
   rw [List.getElem?_append_right (Nat.le_refl _)] at hf
   rw [List.getElem?_append_right (by rw [h.len];exact Nat.le_refl _),h.len] at hy
   simp at hf hy
   subst hf
   subst hy
   exact ⟨hx.1,zaf hx.2 (fun g hgy=>(hblk x (.inr rfl) g hgy).2)⟩
 ·intro y hy
  rcases List.mem_append.1 hy with hy | hy
  ·exact hapart y (.inl hy)
  ·exact hapart y (.inr (by simpa using hy))
 ·rw [List.pairwise_append]
  exact ⟨h.pair,List.pairwise_singleton _ _,fun y hy z hz=>by
   simp at hz
   subst hz
   exact hxs y hy⟩
def zbX (Z:Nat→Prop) (w:World) (a:Option Addr) (vs:List V):Prop:=
 ∀ (i:Nat) (v:V),vs[i]?=some v→∃ b o,Z b∧a=some ⟨b,o,none⟩∧w.cell? ⟨b,o+i * 3,none⟩=some (.int .i64 v.kind) ∧
  w.cell? ⟨b,o+i * 3+1,none⟩=some (.int .i64 v.num)∧w.cell? ⟨b,o+i * 3+2,none⟩=some (.string v.sym)
def zce (Z:Nat→Prop) (w:World) (a:Option Addr) (fs:List F):Prop:=
 ∀ (i:Nat) (f:F),fs[i]?=some f→∃ b o,Z b∧a=some ⟨b,o,none⟩∧w.cell? ⟨b,o+i * 3,none⟩=some (.int .i64 f.tag) ∧
  w.cell? ⟨b,o+i * 3+1,none⟩=some (.string f.cls)∧∃ a' c,w.cell? ⟨b,o+i * 3+2,none⟩=some (.slice a' f.slots.length c)∧zbX Z w a' f.slots
theorem zbX.at {Z:Nat→Prop}{w:World}{a:Option Addr}{vs:List V} (h:zbX Z w a vs):zaY w a vs:=fun i v hv=>by
 obtain ⟨b,o,_,h⟩:=h i v hv
 exact ⟨b,o,h⟩
theorem zce.at {Z:Nat→Prop}{w:World}{a:Option Addr}{fs:List F} (h:zce Z w a fs):zaG w a fs:=fun i f hf=>by
 obtain ⟨b,o,_,h1,h2,h3,a',c,h4,h5⟩:=h i f hf
 exact ⟨b,o,h1,h2,h3,a',c,h4,h5.at⟩
theorem zdw {w w':World}{b o:Nat}{x:Value} (hk:w'.heap[b]?=w.heap[b]?) (h:w.cell? ⟨b,o,none⟩=some x):w'.cell? ⟨b,o,none⟩=some x:=by
 rw [← h]
 exact World.cell?_of_block (a:=⟨b,o,none⟩) hk
theorem zbX.kept {Z:Nat→Prop}{w w':World}{a:Option Addr}{vs:List V} (h:zbX Z w a vs) (hk:∀ b,Z b→b<w.heap.size→w'.heap[b]?=w.heap[b]?):zbX Z w' a vs:=fun i v hv=>by
 obtain ⟨b,o,hz,h1,h2,h3,h4⟩:=h i v hv
 have:=hk b hz (World.block_lt_of_cell? w ⟨b,_,none⟩ h2)
 exact ⟨b,o,hz,h1,zdw this h2,zdw this h3,zdw this h4⟩
theorem zce.kept {Z:Nat→Prop}{w w':World}{a:Option Addr}{fs:List F} (h:zce Z w a fs) (hk:∀ b,Z b→b<w.heap.size→w'.heap[b]?=w.heap[b]?):zce Z w' a fs:=fun i f hf=>by
 obtain ⟨b,o,hz,h1,h2,h3,a',c,h4,h5⟩:=h i f hf
 have:=hk b hz (World.block_lt_of_cell? w ⟨b,_,none⟩ h2)
 exact ⟨b,o,hz,h1,zdw this h2,zdw this h3,a',c,zdw this h4,h5.kept hk⟩
theorem zbX.mono {Z Z':Nat→Prop}{w:World}{a:Option Addr}{vs:List V} (h:zbX Z w a vs) (hz:∀ b,Z b→Z' b):zbX Z' w a vs:=fun i v hv=>by
 obtain ⟨b,o,h0,h⟩:=h i v hv
 exact ⟨b,o,hz b h0,h⟩
theorem zce.mono {Z Z':Nat→Prop}{w:World}{a:Option Addr}{fs:List F} (h:zce Z w a fs) (hz:∀ b,Z b→Z' b):zce Z' w a fs:=fun i f hf=>by
 obtain ⟨b,o,h0,h1,h2,h3,a',c,h4,h5⟩:=h i f hf
 exact ⟨b,o,hz b h0,h1,h2,h3,a',c,h4,h5.mono hz⟩
theorem zaY.on {w:World}{a:Option Addr}{vs:List V} (h:zaY w a vs):zbX (fun b=>b<w.heap.size) w a vs:=fun i v hv=>by
 obtain ⟨b,o,h1,h2,h3⟩:=h i v hv
 exact ⟨b,o,World.block_lt_of_cell? w ⟨b,_,none⟩ h2,h1,h2,h3⟩
theorem zaG.on {w:World}{a:Option Addr}{fs:List F} (h:zaG w a fs):zce (fun b=>b<w.heap.size) w a fs:=fun i f hf=>by
 obtain ⟨b,o,h1,h2,h3,a',c,h4,h5⟩:=h i f hf
 exact ⟨b,o,World.block_lt_of_cell? w ⟨b,_,none⟩ h2,h1,h2,h3,a',c,h4,h5.on⟩
theorem zbX.owns {w:World}{base:Nat}{a:Option Addr}{c:Nat}{vs:List V} (h:w.ownsRow base 109 3 (.slice a vs.length c) vs.length (vs.flatMap V.cells)):zbX (fun b=>base≤b∧b<w.heap.size) w a vs:=fun i v hv=>by
 obtain ⟨b,o,rfl,h2,h3⟩:=zaY.owns h i v hv
 exact ⟨b,o,h.lt b rfl,rfl,h2,h3⟩
theorem OFs.on {w:World}{base:Nat}{a:Option Addr}{n c:Nat}{fs:List F}{xs:List Value} (h:OFs w base (.slice a n c) n fs xs):zce (fun b=>base≤b∧b<w.heap.size) w a fs:=by
 intro i f hf
 have hi:i<fs.length:=(List.getElem?_eq_some_iff.1 hf).1
 have hx:xs[i]?=some (xs[i]'(by rw [h.len];exact hi)):=List.getElem?_eq_getElem _
 obtain ⟨⟨a',c',e⟩,ho⟩:=h.each i f _ hf hx
 have key:=fun j (hj:j<3)=>zdK fs xs h.len i f _ hf hx j hj
 obtain ⟨g,rfl,hg,h0,_⟩:=zam h.own ((key 0 (by omega)).trans rfl)
 obtain ⟨g1,he1,_,h1,_⟩:=zam h.own ((key 1 (by omega)).trans rfl)
 obtain ⟨g2,he2,_,h2,_⟩:=zam h.own ((key 2 (by omega)).trans rfl)
 cases he1
 cases he2
 rw [e] at h2 ho
 exact ⟨g,0,h.own.lt g rfl,rfl,by simpa using h0,by simpa using h1,a',c',by simpa using h2,zbX.owns ho⟩
end Go.Proofs.YtmmdlgjmplddiaaGreat
namespace Go.Proofs.YtmmdlgjmplddiaaGreat
open Go.RowKit
attribute [local go_sem ↓] Go.wp_at_zero Go.wp_at_succ
theorem hidden' {p:Prop} (h:p):Hid p:=h
theorem zle {w w':World} (h:w.grownBy w' none):Below w.heap.size w w':=
 (Below.refl _ _).grown h (Nat.le_refl _) (fun k hk=>by cases hk)
def zoe (w:World) (base:Nat) (x:Value) (vs:List V):Prop:=(∃ a c,x=.slice a vs.length c)∧w.ownsRow base 109 3 x vs.length (vs.flatMap V.cells)
set_option maxHeartbeats 800000 in
theorem zeX (a:Option Addr) (c:Nat) (vs:List V) (w:World) (hv:zaY w a vs) (hl:vs.length≤1048576) :
  Calls Tryz.prog 126 #[.slice a vs.length c] w fun e w'=>
   (∃ a' c',e=.returned (.slice a' vs.length c')∧zoe w' w.heap.size (.slice a' vs.length c') vs)∧Below w.heap.size w w':=by
 go_enter Tryz.func126,Tryz.ntmps126
 go_wp2_with (at_builtin;refine zae (by rfl) (.tmp 4) (.tmp 5) 40 (by rfl) w.heap.size 109 _ 3 32 Tryz.underlying40 zoh (by rfl) (by omega) _ 0 [] (by rfl) (World.ownsRow_nil _ _ _ _) a vs.length c (by rfl) (vs.flatMap V.cells) (zi2 _) (fun e=>zaY.nil (e ▸ hv)) (fun ad e=>zaY.flat (e ▸ hv)) (zlO _) (by unfold maxLen;omega) (by omega) (Nat.le_refl _) ?_;intro a' c' w1 ho hg hl1)
 have ho1:=ho.out
 simp only [Nat.zero_add,List.nil_append] at ho1
 go_ret
 exact ⟨⟨a',c',by simp,⟨a',c',rfl⟩,ho1⟩,zle hg.out⟩
theorem zfX (w:World) (L:List Value) (t:TypeId) (ad:Addr) (e:some (⟨w.heap.size,0,none⟩:Addr)=some ad) (j:Nat) (u:Value) (h:L[j]?=some u):(w.alloc (.cells L.toArray t)).cell? (ad.add j)=some u:=by
 cases e
 rw [Addr.add_mid,Nat.zero_add]
 have hb:=heap_alloc_new w (.cells L.toArray t)
 simp only [World.cell?,hb]
 simp [h]
theorem zeg (f:F) (a:Option Addr) (n c:Nat):∀ u∈fcells f (.slice a n c),u.oneCell'=true:=by
 intro u hu
 simp [fcells] at hu
 rcases hu with rfl | rfl | rfl <;> rfl
theorem zg8 {w:World}{base B:Nat}{v x:Value}{e e':TypeId}{s s' n n':Nat}{xs ys:List Value}{w':World} (h:w.ownsRow base e s v n xs) (hx:w'.ownsRow B e' s' x n' ys) (hB:w.heap.size≤B):Apart v x:=fun g hg hgx=>by
 have h1:=(h.lt g hg).2
 have h2:=(hx.lt g hgx).1
 omega
set_option maxRecDepth 100000 in
set_option maxHeartbeats 800000 in
theorem zh3 (a:Option Addr) (c:Nat) (fs:List F) (w:World) (hv:zaG w a fs) (hl:fs.length≤1048576) (hs:∀ f∈fs,f.slots.length≤1048576) :
  Calls Tryz.prog 125 #[.slice a fs.length c] w fun e w'=>
   (∃ a' c' xs,e=.returned (.slice a' fs.length c')∧OFs w' w.heap.size (.slice a' fs.length c') fs.length fs xs)∧Below w.heap.size w w':=by
 go_enter Tryz.func125,Tryz.ntmps125
 go_wp2
 go_loopw [3,8] (fun v i wr=>∃ (k:Nat) (a':Option Addr) (c':Nat) (xs:List Value),k≤fs.length∧i=.int .i64 k∧v=.slice a' k c'∧OFs wr w.heap.size (.slice a' k c') k (fs.take k) xs∧Below w.heap.size w wr) (fun _ i _=>fs.length - (intOf i).toNat)
 case atStart=>exact ⟨0,none,0,[],by omega,rfl,rfl,OFs.nil _ _,Below.refl _ _⟩
 case round=>
  obtain ⟨k,a',c',xs,hk,rfl,rfl,ho,hb⟩:=hrel
  by_cases hkl:k<fs.length
  ·obtain ⟨f,hfk⟩:∃ f,fs[k]?=some f:=⟨fs[k],by simp [hkl]⟩
   obtain ⟨b,o,rfl,c0,c1,s,cs,c2,hsl⟩:=hv.below hb k f hfk
   have hsf:=hs f (List.mem_of_getElem? hfk)
   have B1:∀ o,Below wr.heap.size wr (wr.alloc o):=fun o=>(Below.refl _ _).alloc (Nat.le_refl _) _
   have HO:=hidden' ho
   clear ho
   go_wp2
   go_region_held3 (fun w'=>w'.cell? ⟨wr.heap.size,0,none⟩=some (.int .i64 f.tag)∧w'.cell? ⟨wr.heap.size,1,none⟩=some (.string f.cls)∧w'.cell? ⟨wr.heap.size,2,none⟩=some (.slice s f.slots.length cs)) ((go_split_ands;refine ⟨?_,?_,?_⟩ <;> first | (simp [*,go_sem];done) | exact zaa hb1 (by simp [*,go_sem]) | exact zaa ((Below.refl _ _).alloc (Nat.le_refl _) _) (zaa hb1 (by simp [*,go_sem])) | exact hg2.out.cell (zaa ((Below.refl _ _).alloc (Nat.le_refl _) _) (zaa hb1 (by simp [*,go_sem]))) (fun e=>absurd (HO.out.own.lt _ e.symm).2 (Nat.lt_irrefl _))))
    (first | (go_at_call 126;refine (zeX s cs f.slots _ (hsl.below ?_) hsf).mono ?_;exact (B1 _).drew;rintro e w1 ⟨⟨a1,c1',rfl,hx1⟩,hb1⟩;have ho1:=hidden' ((HO.out.below (B1 _).drew).below hb1);have HX:=hidden' hx1;clear hx1) | (refine zaq (by rfl) (.tmp 12) (.tmp 21) 24 (by rfl) w.heap.size 42 _ 3 48 Tryz.underlying24 znN (by rfl) (by omega) _ k _ (by rfl) (ho1.out.own.alloc _) (some ⟨w1.heap.size,0,none⟩) 1 1 (by rfl) (fcells f (.slice a1 f.slots.length c1')) (by rfl) (fun e=>by cases e) (by exact zfX _ _ _) (zeg _ _ _ _) (by unfold maxLen;omega) (by omega) (by have h1:=hb.size;have h2:=hb1.size;simp at h2 ⊢;omega) ?_;intro a2 c2' w2 ho2 hg2 hl2))
   have hX:=HX.out
   have hW1:Below w.heap.size w w1:=hb.trans (((B1 _).drew.trans (hb1.mono (by simp))).mono hb.size)
   have hsz:w.heap.size≤w1.heap.size:=hW1.size
   have hS:=(ho1.out.below ((Below.refl _ _).alloc (Nat.le_refl _) _)).snoc ⟨hX.1,(zar hX.2 (by have:=hb.size;simp;omega)).alloc _⟩ (zg8 HO.out.own hX.2 (by simp)) (fun y hy=>by
    obtain ⟨f',_,hf'⟩:=HO.out.each' hy
    exact zg8 hf' hX.2 (by simp)) ho2.out hg2.out hl2.out
   go_wp2
   go_roundw
   case rel=>
    rw [← zbV fs k f hfk] at hS
    exact ⟨k+1,a2,c2',_,by omega,by go_num,rfl,hS,((hW1.alloc hsz _).grown hg2.out (by simp;omega) (fun j hj=>(ho1.out.own.lt j hj).1))⟩
   case measure=>simp [intOf];omega
  ·go_wp2
   go_ret
   obtain rfl:k=fs.length:=by omega
   rw [List.take_of_length_le (Nat.le_refl _)] at ho
   exact ⟨⟨a',c',xs,rfl,ho⟩,hb⟩
end Go.Proofs.YtmmdlgjmplddiaaGreat
namespace Go.Proofs.YtmmdlgjmplddiaaGreat
open Go.RowKit
attribute [local go_sem ↓] Go.wp_at_zero Go.wp_at_succ
structure Mk (S:Nat→Prop) (w w':World):Prop where
 rest:Below 0 w w'
 block:∀ g,g<w.heap.size→¬ S g→w'.heap[g]?=w.heap[g]?
theorem Mk.refl (S:Nat→Prop) (w:World):Mk S w w:=⟨Below.refl _ _,fun _ _ _=>rfl⟩
theorem Mk.trans {S:Nat→Prop}{a b c:World} (h:Mk S a b) (k:Mk S b c):Mk S a c:=
 ⟨h.rest.trans k.rest,fun g hg hs=>(k.block g (Nat.lt_of_lt_of_le hg h.rest.size) hs).trans (h.block g hg hs)⟩
theorem Mk.mono {S T:Nat→Prop}{a b:World} (h:Mk S a b) (hst:∀ g,S g→T g):Mk T a b:=⟨h.rest,fun g hg ht=>h.block g hg (fun hs=>ht (hst g hs))⟩
theorem Mk.set {S:Nat→Prop}{w:World}{p:Addr} (hp:S p.block) (u:Value):Mk S w (w.setCell p u):=
 ⟨(Below.refl _ _).setCell (Nat.zero_le _) _,fun _ _ hs=>Below.heap_setCell _ _ _ _ (fun e=>hs (e ▸ hp))⟩
theorem Mk.below {S:Nat→Prop}{w w':World}{B:Nat} (h:Mk S w w') (hB:B≤w.heap.size) (hs:∀ g,S g→B≤g):Below B w w':=
 ⟨h.rest.os,h.rest.tape,h.rest.output,h.rest.size,fun k hk=>h.block k (by omega) (fun hS=>by have:=hs k hS;omega)⟩
end Go.Proofs.YtmmdlgjmplddiaaGreat
namespace Go.Proofs.YtmmdlgjmplddiaaGreat
open Go.RowKit
attribute [local go_sem ↓] Go.wp_at_zero Go.wp_at_succ
end Go.Proofs.YtmmdlgjmplddiaaGreat
namespace Go.Proofs.YtmmdlgjmplddiaaGreat
open Go.RowKit
attribute [local go_sem ↓] Go.wp_at_zero Go.wp_at_succ
def fidx (tag:Int):List F→Option Nat
 | []=>none
 | f :: r=>if f.tag=tag then some 0 else (fidx tag r).map (·+1)
set_option maxHeartbeats 400000 in
theorem zjU (a:Option Addr) (c:Nat) (fs:List F) (nx cp:Int) (sg:Bool) (w:World) (hv:zaG w a fs) (hl:fs.length≤1048576) (hs:∀ f∈fs,f.slots.length≤1048576) :
  Calls Tryz.prog 89 #[.agg #[.slice a fs.length c,.int .i64 nx,.int .i64 cp,.bool sg]] w fun e w'=>
   (∃ a' c' xs,e=.returned (.agg #[.slice a' fs.length c',.int .i64 nx,.int .i64 cp,.bool sg])∧OFs w' w.heap.size (.slice a' fs.length c') fs.length fs xs)∧Below w.heap.size w w':=by
 have B2:∀ o o',Below w.heap.size w ((w.alloc o).alloc o'):=fun o o'=>((Below.refl _ _).alloc (Nat.le_refl _) _).alloc (by simp) _
 go_enter Tryz.func89,Tryz.ntmps89
 go_wp2
 go_region_held3 (fun w'=>w'.cell? ⟨w.heap.size,0,none⟩=some (.slice a fs.length c)∧w'.cell? ⟨w.heap.size,1,none⟩=some (.int .i64 nx)∧w'.cell? ⟨w.heap.size,2,none⟩=some (.int .i64 cp)∧w'.cell? ⟨w.heap.size,3,none⟩=some (.bool sg)) ((go_split_ands;refine ⟨?_,?_,?_,?_⟩ <;> first | (simp [*,go_sem];done) | exact zaa hb1 (by simp [*,go_sem]) | (simp [World.cell?_setCell_other];exact zaa hb1 (by simp [*,go_sem]))))
  (first | (go_at_call 125;refine (zh3 a c fs _ (hv.below ?_) hl hs).mono ?_;exact (B2 _ _).drew;rintro e w1 ⟨⟨a1,c1,xs,rfl,ho1⟩,hb1⟩;obtain ⟨hc,hf⟩:=bcell hb1))
 go_wp2
 refine bodyPost_ret (v:=.agg #[.slice a1 fs.length c1,.int .i64 nx,.int .i64 cp,.bool sg]) (by simp [results,Tryz.results89,go_sem,hc]) rfl ⟨⟨a1,c1,xs,rfl,?_⟩,?_⟩
 ·exact ((((ho1.set (by simp) _).set (by simp) _).set (by simp) _).set (by simp) _).lower (by simp;omega)
 ·have hB:Below w.heap.size w w1:=(B2 _ _).drew.trans (hb1.mono (by simp;omega))
  exact (((hB.setCell (by simp) _).setCell (by simp) _).setCell (by simp) _).setCell (by simp) _
structure RFs (Z:Nat→Prop) (w0 w:World) (v:Value) (n:Nat) (fs:List F) (xs:List Value):Prop where
 num:n=fs.length
 len:xs.length=fs.length
 own:w.ownsRow w0.heap.size 42 3 v n (frows fs xs)
 each:∀ (i:Nat) (f:F) (x:Value),fs[i]?=some f→xs[i]?=some x→∃ a c,x=.slice a f.slots.length c∧zbX Z w0 a f.slots
theorem RFs.at {Z:Nat→Prop}{w0 w:World}{a:Option Addr}{n c:Nat}{fs:List F}{xs:List Value} (h:RFs Z w0 w (.slice a n c) n fs xs) (hb:Below w0.heap.size w0 w):zce (fun b=>Z b∨(w0.heap.size≤b∧b<w.heap.size)) w a fs:=by
 intro i f hf
 have hi:i<fs.length:=(List.getElem?_eq_some_iff.1 hf).1
 have hx:xs[i]?=some (xs[i]'(by rw [h.len];exact hi)):=List.getElem?_eq_getElem _
 obtain ⟨a',c',e,ho⟩:=h.each i f _ hf hx
 have key:=fun j (hj:j<3)=>zdK fs xs h.len i f _ hf hx j hj
 obtain ⟨g,rfl,_,h0,_⟩:=zam h.own ((key 0 (by omega)).trans rfl)
 obtain ⟨g1,he1,_,h1,_⟩:=zam h.own ((key 1 (by omega)).trans rfl)
 obtain ⟨g2,he2,_,h2,_⟩:=zam h.own ((key 2 (by omega)).trans rfl)
 cases he1
 cases he2
 rw [e] at h2
 exact ⟨g,0,.inr (h.own.lt g rfl),rfl,by simpa using h0,by simpa using h1,a',c',by simpa using h2,(ho.kept (fun b _ hlt=>hb.block b hlt)).mono (fun b hz=>.inl hz)⟩
end Go.Proofs.YtmmdlgjmplddiaaGreat
namespace Go.Proofs.YtmmdlgjmplddiaaGreat
open Go.RowKit
structure C6 where
 fs:List F
 nx:Int
 cp:Int
 sg:Bool
 code:Int
 tag:Int
def C6.bad:C6:=⟨[],0,0,false,1,0⟩
def C6.val (r:C6) (a:Option Addr) (c:Nat):Value:=.agg #[.slice a r.fs.length c,.int .i64 r.nx,.int .i64 r.cp,.bool r.sg,.int .i64 r.code,.int .i64 r.tag]
theorem zeU {last:Int}:∀ {fs:List F},zbm last fs=true→∀ f∈fs,last<f.tag
 | [],_,f,hf=>by simp at hf
 | g :: r,h,f,hf=>by
  simp only [zbm,okF,Bool.and_eq_true,decide_eq_true_eq] at h
  rcases List.mem_cons.1 hf with rfl | hm
  ·exact h.1.1
  ·have:=zeU h.2 f hm
   omega
end Go.Proofs.YtmmdlgjmplddiaaGreat
namespace Go.Proofs.YtmmdlgjmplddiaaGreat
open Go.RowKit Go.Maps
attribute [local go_sem ↓] Go.wp_at_zero Go.wp_at_succ
theorem zhb (tag:Int) (f:F):∀ (l:List F),fidx tag (l ++ [f])=match fidx tag l with | some i=>some i | none=>if f.tag=tag then some l.length else none
 | []=>by by_cases h:f.tag=tag <;> simp [fidx,h]
 | g :: r=>by
  rw [List.cons_append,fidx,fidx]
  by_cases h:g.tag=tag
  ·simp [h]
  ·rw [if_neg h,if_neg h,zhb tag f r]
   cases fidx tag r with
   | some i=>rfl
   | none=>by_cases h':f.tag=tag <;> simp [h']
theorem zfW {f:F}:∀ {fs:List F}{last:Int}{k:Nat},zbm last fs=true→fs[k]?=some f→fidx f.tag (fs.take k)=none
 | [],_,_,_,h=>by simp at h
 | _ :: _,_,0,_,_=>rfl
 | g :: r,last,k+1,hg,h=>by
  have hg2:zbm g.tag r=true:=by simp only [zbm,Bool.and_eq_true] at hg;exact hg.2
  have hm:r[k]?=some f:=by simpa using h
  have:=zeU hg2 f (List.mem_of_getElem? hm)
  rw [List.take_succ_cons,fidx,if_neg (by omega),zfW hg2 hm]
  rfl
structure PInv (fs:List F) (k:Nat) (D:DataW Unit):Prop where
 absent:∀ tag,fidx tag (fs.take k)=none→Maps.has D (.int .i64 tag)=false
 present:∀ tag i,fidx tag (fs.take k)=some i→Maps.has D (.int .i64 tag)=true∧∀ z,D.atKey (.int .i64 tag) z=.lit (.int .i64 i)
theorem PInv.start (fs:List F):PInv fs 0 (.map []):=⟨fun _ _=>rfl,fun tag i h=>by simp [fidx] at h⟩
theorem PInv.step {fs:List F}{k:Nat}{D:DataW Unit}{f:F} (h:PInv fs k D) (hm:IsMap D) (hg:zbm 0 fs=true) (hf:fs[k]?=some f):PInv fs (k+1) (D.put (.int .i64 f.tag) (.lit (.int .i64 k))):=by
 have hk:k<fs.length:=(List.getElem?_eq_some_iff.1 hf).1
 have hfr:=zfW hg hf
 have hl:(fs.take k).length=k:=by simp;omega
 have key:∀ tag,fidx tag (fs.take (k+1))=if f.tag=tag then some k else fidx tag (fs.take k):=by
  intro tag
  rw [zbV fs k f hf,zhb,hl]
  by_cases ht:f.tag=tag
  ·subst ht
   rw [hfr]
  ·rw [if_neg ht,if_neg ht]
   cases fidx tag (fs.take k) <;> rfl
 constructor
 ·intro tag hn
  rw [key] at hn
  by_cases ht:f.tag=tag
  ·rw [if_pos ht] at hn;cases hn
  ·rw [if_neg ht] at hn
   rw [has_put_other (fun e=>ht (by cases e;rfl))]
   exact h.absent tag hn
 ·intro tag i hn
  rw [key] at hn
  by_cases ht:f.tag=tag
  ·rw [if_pos ht] at hn
   cases hn
   subst ht
   have hkl:WideAt.IsKeyLit (.int .i64 f.tag):=trivial
   exact ⟨has_put_same hm hkl _,fun z=>atKey_put_same hm hkl _ z⟩
  ·rw [if_neg ht] at hn
   obtain ⟨h1,h2⟩:=h.present tag i hn
   have hne:Lit.int .i64 tag≠Lit.int .i64 f.tag:=fun e=>ht (by cases e;rfl)
   exact ⟨by rw [has_put_other hne];exact h1,fun z=>by rw [atKey_put_other hne];exact h2 z⟩
theorem znS {k:Nat} (h:k≤1048576):(Lit.int .i64 (k:Int)).wf=true:=by
 have h1:IntKind.i64.min = -9223372036854775808:=rfl
 have h2:IntKind.i64.max=9223372036854775807:=rfl
 simp only [Lit.wf,h1,h2,Bool.and_eq_true,decide_eq_true_eq]
 omega
theorem lawI:Keyed Tryz.prog 3:=int_keyed Tryz.underlying3
set_option maxHeartbeats 800000 in
theorem zjx (a:Option Addr) (c:Nat) (fs:List F) (nx cp:Int) (sg:Bool) (w:World) (hv:zaG w a fs) (hl:fs.length≤1048576) (hg:zbm 0 fs=true) (hr:∀ f∈fs,Read f) :
  Calls Tryz.prog 62 #[.agg #[.slice a fs.length c,.int .i64 nx,.int .i64 cp,.bool sg]] w fun e w'=>
   ∃ b D,e=.returned (.map (some b))∧w'.ownsMap Tryz.prog 3 (plainElem Tryz.prog 3) b fs.length D∧PInv fs fs.length D∧Below w.heap.size w w':=by
 have hmm:=zeG (P:=Tryz.prog) (t:=145) Tryz.underlying145
 go_enter Tryz.func62,Tryz.ntmps62
 go_wp2
 clear hmm
 go_loopw [13] (fun i wr=>∃ (k:Nat) (D:DataW Unit),k≤fs.length∧i=.int .i64 k∧wr.ownsMap Tryz.prog 3 (plainElem Tryz.prog 3) (w.heap.size+1) k D∧PInv fs k D∧Below w.heap.size w wr) (fun i _=>fs.length - (intOf i).toNat)
 case atStart=>exact ⟨0,.map [],by omega,rfl,by have:=World.ownsMap_made (H:=Unit) (w.alloc (.cells #[.slice a fs.length c,.int .i64 nx,.int .i64 cp,.bool sg] 26)) Tryz.prog 3 (plainElem Tryz.prog 3);simpa using this,PInv.start fs,((Below.refl _ _).alloc (Nat.le_refl _) _).alloc (by simp) _⟩
 case round=>
  obtain ⟨k,D,hk',rfl,hown,hI,hb⟩:=hrel
  by_cases hkl:k<fs.length
  ·obtain ⟨f,hfk⟩:∃ f,fs[k]?=some f:=⟨fs[k],by simp [hkl]⟩
   obtain ⟨b,o,rfl,c0,c1,s,cs,c2,hsl⟩:=hv.below hb k f hfk
   have htg:=(hr f (List.mem_of_getElem? hfk)).1
   have hI2:=hI.step hown.isMap hg hfk
   obtain ⟨w2,hrun,ho2,hg2⟩:=(hown.alloc (.cells #[.int .i64 f.tag,.string f.cls,.slice s f.slots.length cs] 42)).update lawI (t:=145) Tryz.underlying145 (by unfold maxLen;omega) (keyOf_int_mk Tryz.underlying3 htg) (plainElem_int Tryz.underlying3 (znS (k:=k) (by omega)))
   have HO2:=hidden ho2
   have HG2:=hidden hg2
   have hbl:=hown.lt
   clear ho2 hg2 hI hown
   go_wp2
   clear hrun
   go_roundw
   case rel=>exact ⟨k+1,_,by omega,by go_num,HO2.out,hI2,(hb.alloc hb.size _).grown HG2.out (by have:=hb.size;simp;omega) (fun j hj=>by cases hj;omega)⟩
   case measure=>simp [intOf];omega
  ·go_wp2
   go_ret
   obtain rfl:k=fs.length:=by omega
   exact ⟨_,D,rfl,hown,hI,hb⟩
theorem zn5 (w:World):(zeroValue 3).run Tryz.prog w=.ok (.int .i64 0) w:=by kernel_rfl
def atOf:Option Nat→Int
 | some i=>i
 | none=>0
theorem zl4 {fs:List F}{w:World}{b:Nat}{D:DataW Unit} (h:w.ownsMap Tryz.prog 3 (plainElem Tryz.prog 3) b fs.length D) (hI:PInv fs fs.length D) {tag:Int} (hw:(Lit.int .i64 tag).wf=true) :
  (Instr.lookup 145 (.map (some b)) (.int .i64 tag) true).run Tryz.prog w=.ok (.tuple #[.int .i64 (atOf (fidx tag fs)),.bool (fidx tag fs).isSome]) w:=by
 obtain ⟨v,ps,hrun,hv⟩:=h.look_ok lawI (t:=145) Tryz.underlying145 (zn5 w) (plainElem_int Tryz.underlying3 (by decide)) (keyOf_int_mk Tryz.underlying3 hw)
 obtain ⟨c,rfl,hc,_⟩:=plainElem_int_inv Tryz.underlying3 hv
 simp only [Prod.mk.injEq] at hc
 have ht:fs.take fs.length=fs:=List.take_of_length_le (Nat.le_refl _)
 rw [hrun]
 cases hi:fidx tag fs with
 | none=>
  have h1:=hI.absent tag (by rw [ht];exact hi)
  have h2:=atKey_of_not_has h1 (.lit (.int .i64 0))
  rw [h2] at hc
  rw [h1]
  have:=hc.1
  cases this
  rfl
 | some i=>
  obtain ⟨h1,h2⟩:=hI.present tag i (by rw [ht];exact hi)
  rw [h2] at hc
  rw [h1]
  have:=hc.1
  cases this
  rfl
end Go.Proofs.YtmmdlgjmplddiaaGreat
namespace Go.Proofs.YtmmdlgjmplddiaaGreat
open Go.RowKit
attribute [local go_sem ↓] Go.wp_at_zero Go.wp_at_succ
theorem OFs.one {w:World}{base n:Nat}{v:Value}{fs:List F}{xs:List Value} (h:OFs w base v n fs xs):∀ u∈frows fs xs,u.oneCell'=true:=by
 intro u hu
 unfold frows at hu
 obtain ⟨p,hp,hu⟩:=List.mem_flatMap.1 hu
 obtain ⟨i,hi,he⟩:=List.getElem_of_mem hp
 have hz:(fs.zip xs)[i]?=some p:=by rw [List.getElem?_eq_getElem hi,he]
 obtain ⟨h1,h2⟩:=List.getElem?_zip_eq_some.1 hz
 obtain ⟨⟨a,c,e⟩,_⟩:=h.each i _ _ h1 h2
 rw [e] at hu
 exact zeg _ _ _ _ u hu
theorem zaG.take {w:World}{a:Option Addr}{fs:List F} (h:zaG w a fs) (k:Nat):zaG w a (fs.take k):=fun i f hf=>by
 rw [List.getElem?_take] at hf
 split at hf
 ·exact h i f hf
 ·cases hf
end Go.Proofs.YtmmdlgjmplddiaaGreat
namespace Go.Proofs.YtmmdlgjmplddiaaGreat
open Go.RowKit Go.Maps
attribute [local go_sem ↓] Go.wp_at_zero Go.wp_at_succ
theorem six {w:World}{b:Nat}{r:Array Value}{t:TypeId} (h:w.heap[b]?=some (.cells r t (0,0))) (hs:r.size=6):∃ x0 x1 x2 x3 x4 x5,w.cell? ⟨b,0,none⟩=some x0∧w.cell? ⟨b,1,none⟩=some x1∧w.cell? ⟨b,2,none⟩=some x2∧w.cell? ⟨b,3,none⟩=some x3∧w.cell? ⟨b,4,none⟩=some x4∧w.cell? ⟨b,5,none⟩=some x5 ∧
  w.frozen? ⟨b,0,none⟩=false∧w.frozen? ⟨b,1,none⟩=false∧w.frozen? ⟨b,2,none⟩=false∧w.frozen? ⟨b,3,none⟩=false∧w.frozen? ⟨b,4,none⟩=false∧w.frozen? ⟨b,5,none⟩=false:=by
 have hc:∀ j (hj:j<6),w.cell? ⟨b,j,none⟩=some (r[j]'(by omega)):=fun j hj=>by simp [World.cell?,h,show j<r.size by omega]
 have hf:∀ j,w.frozen? ⟨b,j,none⟩=false:=fun j=>by simp [World.frozen?,h]
 exact ⟨_,_,_,_,_,_,hc 0 (by omega),hc 1 (by omega),hc 2 (by omega),hc 3 (by omega),hc 4 (by omega),hc 5 (by omega),hf _,hf _,hf _,hf _,hf _,hf _⟩
def C6.cells (r:C6) (a:Option Addr) (c:Nat):List Value:=[.slice a r.fs.length c,.int .i64 r.nx,.int .i64 r.cp,.bool r.sg,.int .i64 r.code,.int .i64 r.tag]
theorem C6.one (r:C6) (a:Option Addr) (c:Nat):∀ v∈r.cells a c,v.oneCell'=true:=by
 intro v hv
 simp only [C6.cells,List.mem_cons,List.not_mem_nil,or_false] at hv
 rcases hv with rfl | rfl | rfl | rfl | rfl | rfl <;> rfl
theorem zlp:(Tryz.prog.info? 132).map (·.size)=some 6:=by kernel_rfl
theorem C6.load {w:World}{b:Nat}{r:C6}{a:Option Addr}{c:Nat}{fr:Nat × Nat} (h:w.heap[b]?=some (.cells (r.cells a c).toArray 132 fr)):(loadVar 132 ⟨b,0,none⟩).run Tryz.prog w=.ok (r.val a c) w:=
 run_loadVar_mid (P:=Tryz.prog) w b 0 132 (r.cells a c) _ (zdp h) Tryz.underlying132 rfl zlp
end Go.Proofs.YtmmdlgjmplddiaaGreat
namespace Go.Proofs.YtmmdlgjmplddiaaGreat
open Go.RowKit Go.Maps
attribute [local go_sem ↓] Go.wp_at_zero Go.wp_at_succ
end Go.Proofs.YtmmdlgjmplddiaaGreat
namespace Go.Proofs.YtmmdlgjmplddiaaGreat
open Go.RowKit
attribute [local go_sem ↓] Go.wp_at_zero Go.wp_at_succ
theorem OFs.marked {w w2:World}{base n:Nat}{v x:Value}{A B:List F}{f f':F}{X Y:List Value} (h:OFs w base v n (A ++ f :: B) (X ++ x :: Y)) (hA:X.length=A.length) (hlen:f'.slots.length=f.slots.length)
  (hv:w2.ownsRow base 42 3 v n (frows (A ++ f' :: B) (X ++ x :: Y))) (hx:w2.ownsRow base 109 3 x f'.slots.length (f'.slots.flatMap V.cells)) (hm:Mk (fun g=>v.ownBlock=some g∨x.ownBlock=some g) w w2):OFs w2 base v n (A ++ f' :: B) (X ++ x :: Y):=by
 have hp:=List.pairwise_append.1 h.pair
 have hother:∀ y:Value,y∈X∨y∈Y→∀ g,y.ownBlock=some g→w2.heap[g]?=w.heap[g]?:=by
  intro y hy g hg
  have hym:y∈X ++ x :: Y:=by rcases hy with hy | hy <;> simp [hy]
  refine hm.block g (h.range (.inr ⟨y,hym,hg⟩)).2 ?_
  rintro (e | e)
  ·exact h.apart y hym g e hg
  ·rcases hy with hy | hy
   ·exact hp.2.2 y hy x (by simp) g hg e
   ·exact (List.pairwise_cons.1 hp.2.1).1 y hy g e hg
 refine ⟨by rw [h.num];simp,by rw [h.len];simp,hv,?_,h.apart,h.pair⟩
 intro i q y hq hy
 rcases Nat.lt_trichotomy i A.length with hi | hi | hi
 ·rw [List.getElem?_append_left hi] at hq
  rw [List.getElem?_append_left (by omega)] at hy
  obtain ⟨h1,h2⟩:=h.each i q y (by rw [List.getElem?_append_left hi];exact hq) (by rw [List.getElem?_append_left (by omega)];exact hy)
  exact ⟨h1,zaf h2 (hother y (.inl (List.mem_of_getElem? hy)))⟩
 ·subst hi
  rw [List.getElem?_append_right (Nat.le_refl _)] at hq
  rw [List.getElem?_append_right (by omega),hA] at hy
  simp at hq hy
  subst hq
  subst hy
  obtain ⟨⟨a,c,e⟩,_⟩:=h.each A.length f x (by simp) (by rw [List.getElem?_append_right (by omega),hA];simp)
  exact ⟨⟨a,c,by rw [e,hlen]⟩,hx⟩
 ·have e1:∀ u:F,(A ++ u :: B)[i]?=B[i - A.length - 1]?:=fun u=>by
   rw [List.getElem?_append_right (by omega),List.getElem?_cons,if_neg (by omega)]
  have e2:(X ++ x :: Y)[i]?=Y[i - A.length - 1]?:=by
   rw [List.getElem?_append_right (by omega),List.getElem?_cons,if_neg (by omega),hA]
  rw [e1] at hq
  rw [e2] at hy
  obtain ⟨h1,h2⟩:=h.each i q y (by rw [e1];exact hq) (by rw [e2];exact hy)
  exact ⟨h1,zaf h2 (hother y (.inr (List.mem_of_getElem? hy)))⟩
end Go.Proofs.YtmmdlgjmplddiaaGreat
namespace Go.Proofs.YtmmdlgjmplddiaaGreat
open Go.RowKit
attribute [local go_sem ↓] Go.wp_at_zero Go.wp_at_succ
end Go.Proofs.YtmmdlgjmplddiaaGreat
namespace Go.Proofs.YtmmdlgjmplddiaaGreat
open Go.RowKit Go.Maps
attribute [local go_sem ↓] Go.wp_at_zero Go.wp_at_succ
def bars (but:Int) (cls:ByteArray) (vs:List V) (f:F):Bool:=decide (f.tag≠but) && (decide (f.cls=cls) && decide (f.slots=vs))
def zgF (but:Int) (cls:ByteArray) (vs:List V):List F→Int
 | []=>0
 | f :: r=>if bars but cls vs f then f.tag else zgF but cls vs r
def zda (sg:Bool) (but:Int) (cls:ByteArray) (vs:List V) (fs:List F):Int:=if sg then zgF but cls vs fs else 0
set_option maxHeartbeats 1600000 in
theorem zin (a:Option Addr) (c:Nat) (fs:List F) (nx cp:Int) (sg:Bool) (but:Int) (cls:ByteArray) (sa:Option Addr) (sc:Nat) (vs:List V) (w:World) (hv:zaG w a fs) (hsv:zaY w sa vs) (hl:fs.length≤1048576) (hs:∀ f∈fs,f.slots.length≤1048576) :
  Calls Tryz.prog 90 #[.agg #[.slice a fs.length c,.int .i64 nx,.int .i64 cp,.bool sg],.int .i64 but,.string cls,.slice sa vs.length sc] w fun e w'=>
   e=.returned (.int .i64 (zda sg but cls vs fs))∧Below w.heap.size w w':=by
 have B1:∀ o,Below w.heap.size w (w.alloc o):=fun o=>(Below.refl _ _).alloc (Nat.le_refl _) _
 go_enter Tryz.func90,Tryz.ntmps90
 go_wp2
 go_loopw [14] (fun i wr=>∃ (k:Nat),k≤fs.length∧i=.int .i64 k∧zda sg but cls vs fs=zda sg but cls vs (fs.drop k)∧Below (w.heap.size+1) (w.alloc (.cells #[.slice a fs.length c,.int .i64 nx,.int .i64 cp,.bool sg] 26)) wr) (fun i _=>fs.length - (intOf i).toNat)
 case atStart=>exact ⟨0,by omega,rfl,rfl,Below.refl _ _⟩
 case round=>
  obtain ⟨k,hk,rfl,hG,hb⟩:=hrel
  have HG:=hidden' hG
  clear hG
  have hb0:=hb
  rw [← World.size_alloc w (.cells #[.slice a fs.length c,.int .i64 nx,.int .i64 cp,.bool sg] 26)] at hb0
  have hbw:Below w.heap.size w wr:=(B1 _).trans (hb0.mono (by simp))
  by_cases hkl:k<fs.length
  ·obtain ⟨f,hfk⟩:∃ f,fs[k]?=some f:=⟨fs[k],by simp [hkl]⟩
   obtain ⟨b,o,rfl,c0,c1,s,cs,c2,hsl⟩:=hv.below hbw k f hfk
   have HD:=hidden' (zan hfk)
   have hsf:=hs f (List.mem_of_getElem? hfk)
   have r3:wr.cell? ⟨w.heap.size,3,none⟩=some (.bool sg):=zaa hb0 (by simp [go_sem])
   have hzr:w.heap.size+1≤wr.heap.size:=by have:=hb0.size;simpa using this
   have hbo:∀ o,Below wr.heap.size wr (wr.alloc o):=fun o=>(Below.refl _ _).alloc (Nat.le_refl _) _
   have hsv2:=hsv.below hbw
   have hz3:w.heap.size<wr.heap.size:=by omega
   cases sg
   ·go_wp2
    go_roundw
    case rel=>exact ⟨k+1,by omega,by go_num,by rw [HG.out];rfl,hb.alloc hzr _⟩
    case measure=>simp [intOf];omega
   ·cases ht:(f.tag != but)
    ·have hbar:bars but cls vs f=false:=by unfold bars;simp at ht;simp [ht]
     have HT:=hidden' (show zda true but cls vs (fs.drop k)=zda true but cls vs (fs.drop (k+1)) by rw [HD.out];show (if bars but cls vs f then f.tag else _)=_;rw [hbar];rfl)
     go_wp2
     go_roundw
     case rel=>exact ⟨k+1,by omega,by go_num,by rw [HG.out,HT.out],hb.alloc hzr _⟩
     case measure=>simp [intOf];omega
    ·cases hcl:(f.cls.toList==cls.toList)
     ·have hbar:bars but cls vs f=false:=by rw [zaM] at hcl;unfold bars;rw [hcl];simp
      have HT:=hidden' (show zda true but cls vs (fs.drop k)=zda true but cls vs (fs.drop (k+1)) by rw [HD.out];show (if bars but cls vs f then f.tag else _)=_;rw [hbar];rfl)
      go_wp2
      go_roundw
      case rel=>exact ⟨k+1,by omega,by go_num,by rw [HG.out,HT.out],hb.alloc hzr _⟩
      case measure=>simp [intOf];omega
     ·have hbar:bars but cls vs f=decide (f.slots=vs):=by rw [zaM] at hcl;unfold bars;rw [hcl];simp at ht;simp [ht]
      have HT:=hidden' (show zda true but cls vs (fs.drop k)=if decide (f.slots=vs) then f.tag else zda true but cls vs (fs.drop (k+1)) by rw [HD.out];show (if bars but cls vs f then f.tag else _)=_;rw [hbar];rfl)
      cases hss:decide (f.slots=vs)
      ·go_wp2_with (go_at_call 124;refine (zb1 s sa cs sc f.slots vs _ (hsl.below (hbo _)) (hsv2.below (hbo _)) hsf).mono ?_;rintro e w3 ⟨rfl,hb3⟩)
       go_roundw
       case rel=>exact ⟨k+1,by omega,by go_num,by rw [HG.out,HT.out,hss];rfl,(hb.alloc hzr _).trans (hb3.mono (by simp;omega))⟩
       case measure=>simp [intOf];omega
      ·go_wp2_with (go_at_call 124;refine (zb1 s sa cs sc f.slots vs _ (hsl.below (hbo _)) (hsv2.below (hbo _)) hsf).mono ?_;rintro e w3 ⟨rfl,hb3⟩;obtain ⟨hc3,hf3⟩:=bcell hb3)
       go_ret
       exact ⟨zaX (by rw [HG.out,HT.out,hss];rfl),(hbw.alloc (by omega) _).trans (hb3.mono (by simp;omega))⟩
  ·go_wp2
   go_ret
   exact ⟨zaX (by rw [HG.out,List.drop_eq_nil_of_le (by omega)];cases sg <;> rfl),hbw⟩
end Go.Proofs.YtmmdlgjmplddiaaGreat
namespace Go.Proofs.YtmmdlgjmplddiaaGreat
open Go.RowKit
attribute [local go_sem ↓] Go.wp_at_zero Go.wp_at_succ
def stC (a:Option Addr) (n c:Nat) (nx cp:Int) (sg:Bool):List Value:=[.slice a n c,.int .i64 nx,.int .i64 cp,.bool sg]
theorem znb (a:Option Addr) (n c:Nat) (nx cp:Int) (sg:Bool):∀ v∈stC a n c nx cp sg,v.oneCell'=true:=by
 intro v hv
 simp only [stC,List.mem_cons,List.not_mem_nil,or_false] at hv
 rcases hv with rfl | rfl | rfl | rfl <;> rfl
theorem zms:(Tryz.prog.info? 26).map (·.size)=some 4:=by kernel_rfl
theorem zdn {w w':World}{b:Nat}{o:Obj} (h:w.heap[b]?=some o) (hb:Below w.heap.size w w'):w'.heap[b]?=some o:=(hb.block b (zab h)).trans h
theorem zjT {w w':World}{b b':Nat}{o:Obj} (h:w.heap[b]?=some o) (ht:Turned w w' b') (hne:b≠b'):w'.heap[b]?=some o:=(ht.block b hne).trans h
theorem zkl {w w':World}{o o':Obj}{b:Nat} (h:w.heap[b]?=some o) (ht:Turned (w.alloc o') w' w.heap.size):w'.heap[b]?=some o:=by
 have hl:=zab h
 exact zjT ((Below.heap_alloc _ _ _ hl).trans h) ht (by omega)
theorem zkV {w w':World}{o':Obj} (ht:Turned (w.alloc o') w' w.heap.size):Below w.heap.size w w':=
 ((Below.refl _ _).alloc (Nat.le_refl _) _).trans (ht.below (Nat.le_refl _))
theorem zlQ {w w':World}{o':Obj} (ht:Turned (w.alloc o') w' w.heap.size):w'.heap.size=w.heap.size+1:=by rw [ht.size];simp
theorem ziV {w:World}{b:Nat}{a:Option Addr}{n c:Nat}{nx cp:Int}{sg:Bool}{t:TypeId}{fr:Nat × Nat} (h:w.heap[b]?=some (.cells (stC a n c nx cp sg).toArray t fr)):w.cell? ⟨b,0,none⟩=some (.slice a n c)∧w.cell? ⟨b,1,none⟩=some (.int .i64 nx)∧w.cell? ⟨b,2,none⟩=some (.int .i64 cp)∧w.cell? ⟨b,3,none⟩=some (.bool sg):=by
 have hc:=zdp h
 exact ⟨hc 0 _ rfl,hc 1 _ rfl,hc 2 _ rfl,hc 3 _ rfl⟩
def wt (l:List F):Nat:=2 * l.length+3 * (l.map fun f=>f.slots.length).sum
end Go.Proofs.YtmmdlgjmplddiaaGreat
namespace Go.Proofs.YtmmdlgjmplddiaaGreat
open Go.RowKit Go.Maps
attribute [local go_sem ↓] Go.wp_at_zero Go.wp_at_succ
def znB:Value→Nat
 | .pointer (some p)=>p.block
 | _=>0
attribute [local go_sem] znB
end Go.Proofs.YtmmdlgjmplddiaaGreat
