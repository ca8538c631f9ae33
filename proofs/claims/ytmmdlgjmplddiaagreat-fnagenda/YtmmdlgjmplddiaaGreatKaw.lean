/-
  OUR OWN TEXT. Spec4, Spec5, one behind the other.
-/
import Derived.Test.YtmmdlgjmplddiaaGreatSpec3m
import Derived.Test.YtmmdlgjmplddiaaGreatSpec2m
namespace Go.Proofs.YtmmdlgjmplddiaaGreat
open Go.RowKit
theorem ziO (fs:List F) (nx cp:Int):zeN fs nx cp=false →
  (cp<0)∨(0≤cp∧40<cp)∨(0≤cp∧cp≤40∧cp<fs.length)∨(0≤cp∧cp≤40∧(fs.length:Int)≤cp∧zaS fs=false)∨(0≤cp∧cp≤40∧(fs.length:Int)≤cp∧zaS fs=true∧nx<1)∨(0≤cp∧cp≤40∧(fs.length:Int)≤cp∧zaS fs=true∧1≤nx∧1000001<nx):=by
 intro h
 unfold zeN at h
 cases hg:zaS fs
 ·simp only [hg,Bool.false_and,Bool.and_false] at h
  simp only [Bool.false_eq_true,false_and,and_false,or_false,and_true]
  omega
 ·simp only [hg,Bool.true_and,Bool.and_eq_false_iff,decide_eq_false_iff_not] at h
  simp only [true_and]
  omega
set_option maxHeartbeats 1600000 in
theorem zfo (a:Option Addr) (c:Nat) (fs:List F) (nx cp:Int) (sg:Bool) (w:World) (hv:zaH w a fs) (hl:fs.length≤1048576) (hs:∀ f∈fs,Sized f) (hh:zeN fs nx cp=false) :
  Calls Tryz.prog 86 #[.agg #[.slice a fs.length c,.int .i64 nx,.int .i64 cp,.bool sg]] w fun e w'=>
   e=.returned (.bool (zby fs nx cp sg))∧Below w.heap.size w w':=by
 have HR:Hid (zby fs nx cp sg=false):=by unfold zby;rw [hh];exact rfl
 have B1:∀ o,Below w.heap.size w (w.alloc o):=fun o=>(Below.refl _ _).alloc (Nat.le_refl _) _
 rcases ziO fs nx cp hh with h1 | ⟨h1,h2⟩ | ⟨h1,h2,h3⟩ | ⟨h1,h2,h3,h4⟩ | ⟨h1,h2,h3,h4,h5⟩ | ⟨h1,h2,h3,h4,h5,h6⟩
 all_goals
  clear hh
  go_enter Tryz.func86,Tryz.ntmps86
  go_wp2_with (go_at_call 64;refine (zbX a c fs _ (hv.below (B1 _)) hl hs).mono ?_;rintro e w' ⟨rfl,hb'⟩;obtain ⟨hc,hf⟩:=bcell hb')
  go_ret
  first
  | exact ⟨zac HR.out.symm,B1 _⟩
  | exact ⟨zac HR.out.symm,(B1 _).trans (hb'.mono (by simp))⟩
end Go.Proofs.YtmmdlgjmplddiaaGreat
namespace Go.Proofs.YtmmdlgjmplddiaaGreat
open Go.RowKit
theorem zhM {sg:Bool}{f g:F}{l:List F}{m:Nat} (h:l[m]?=some g):pre1 sg f (l.drop m)=(zcs sg f g && pre1 sg f (l.drop (m+1))):=by
 rw [zak h]
 rfl
set_option maxHeartbeats 1600000 in
theorem zeP (a:Option Addr) (c:Nat) (fs:List F) (nx cp:Int) (w:World) (hv:zaH w a fs) (hl:fs.length≤c) (hs:∀ f∈fs,Sized f) (hh:zeN fs nx cp=true) :
  Calls Tryz.prog 86 #[.agg #[.slice a fs.length c,.int .i64 nx,.int .i64 cp,.bool true]] w fun e w'=>
   e=.returned (.bool (zby fs nx cp true))∧Below w.heap.size w w':=by
 have B1:∀ o,Below w.heap.size w (w.alloc o):=fun o=>(Below.refl _ _).alloc (Nat.le_refl _) _
 have HR:Hid (zby fs nx cp true=pairs true nx [] fs):=by unfold zby;rw [hh];exact rfl
 obtain ⟨h1,h2,h3,h4,h5,h6⟩:0≤cp∧cp≤40∧(fs.length:Int)≤cp∧zaS fs=true∧1≤nx∧nx≤1000001:=by
  unfold zeN at hh
  simpa [Bool.and_eq_true] using hh
 clear hh
 go_enter Tryz.func86,Tryz.ntmps86
 go_wp2_with (go_at_call 64;refine (zbX a c fs _ (hv.below (B1 _)) (by omega) hs).mono ?_;rintro e w' ⟨rfl,hb'⟩;obtain ⟨hc,hf⟩:=bcell hb')
 have q0:w'.cell? ⟨w.heap.size,0,none⟩=some (.slice a fs.length c):=by rw [hc _ _ (by simp)];simp [go_sem]
 have q1:w'.cell? ⟨w.heap.size,1,none⟩=some (.int .i64 nx):=by rw [hc _ _ (by simp)];simp [go_sem]
 have q3:w'.cell? ⟨w.heap.size,3,none⟩=some (.bool true):=by rw [hc _ _ (by simp)];simp [go_sem]
 have hB:Below w.heap.size w w':=(B1 _).trans (hb'.mono (by simp))
 have hz:w.heap.size<w'.heap.size:=by have:=hb'.size;simp at this;omega
 clear hc hf hb' B1
 go_loopw [42] (fun i wr=>∃ (k:Nat),k≤fs.length∧i=.int .i64 k∧zby fs nx cp true=pairs true nx (fs.take k) (fs.drop k)∧Below w'.heap.size w' wr) (fun i _=>fs.length - (intOf i).toNat)
 case atStart=>exact ⟨0,by omega,rfl,HR.out,Below.refl _ _⟩
 case round=>
  obtain ⟨wo,rfl⟩:∃ x,x=wr:=⟨wr,rfl⟩
  obtain ⟨k,hk,rfl,hG,hb⟩:=hrel
  have HG:Hid (zby fs nx cp true=pairs true nx (fs.take k) (fs.drop k)):=hG
  clear hG
  have r0:=zaa hb q0
  have r1:=zaa hb q1
  have r3:=zaa hb q3
  have hz':w.heap.size<wo.heap.size:=Nat.lt_of_lt_of_le hz hb.size
  by_cases hkl:k<fs.length
  ·obtain ⟨f,hfk⟩:∃ f,fs[k]?=some f:=⟨fs[k],by simp [hkl]⟩
   have HD:Hid (fs.drop k=f :: fs.drop (k+1)):=zak hfk
   have hvr:=(hv.below hB).below hb
   obtain ⟨b,o,rfl,c0,c1,s,cs,c2,hsl⟩:=hvr k f hfk
   by_cases h7:nx≤f.tag
   ·go_wp2
    go_ret
    exact ⟨zac (by rw [HG.out,HD.out,pairs,decide_eq_false (by omega)];rfl),hB.trans (((hb.alloc hb.size _)).mono (by omega))⟩
   ·have W1c:∀ o,Below wo.heap.size wo (wo.alloc o):=fun o=>(Below.refl _ _).alloc (Nat.le_refl _) _
    go_wp2
    go_loopw [57] (fun j w2=>∃ (m:Nat),m≤k∧j=.int .i64 m∧pre1 true f (fs.take k)=pre1 true f ((fs.take k).drop m)∧Below (wo.heap.size+1) (wo.alloc (.cells #[.int .i64 f.tag,.string f.cls,.slice s f.slots.length cs] 42)) w2) (fun j _=>k - (intOf j).toNat)
    case atStart=>exact ⟨0,by omega,rfl,rfl,Below.refl _ _⟩
    case round=>
     obtain ⟨m,hm,rfl,hP,hb2⟩:=hrel
     have HP:Hid (pre1 true f (fs.take k)=pre1 true f ((fs.take k).drop m)):=hP
     clear hP
     have hb2':=hb2
     rw [← World.size_alloc] at hb2'
     have hbw:Below wo.heap.size wo wr:=(W1c _).trans (hb2'.mono (by simp))
     have s1:wr.cell? ⟨wo.heap.size,1,none⟩=some (.string f.cls):=zaa hb2' (by simp [go_sem])
     have s2:wr.cell? ⟨wo.heap.size,2,none⟩=some (.slice s f.slots.length cs):=zaa hb2' (by simp [go_sem])
     have t3:=zaa hbw r3
     have hz2:wo.heap.size<wr.heap.size:=by have:=hb2'.size;simp at this;omega
     have hz3:w.heap.size<wr.heap.size:=by omega
     by_cases hml:m<k
     ·obtain ⟨g,hgm⟩:∃ g,fs[m]?=some g:=⟨fs[m],by simp⟩
      have HQ:Hid (pre1 true f ((fs.take k).drop m)=(zcs true f g && pre1 true f ((fs.take k).drop (m+1)))):=zhM (by rw [List.getElem?_take_of_lt hml];exact hgm)
      obtain ⟨b',o',he',d0,d1,s',cs',d2,hsl'⟩:=(hvr.below hbw) m g hgm
      simp only [Option.some.injEq,Addr.mk.injEq,and_true] at he'
      obtain ⟨rfl,rfl⟩:=he'
      obtain ⟨_,HS,_⟩:=hs f (List.mem_of_getElem? hfk)
      have hsl2:=hsl.below hbw
      have hbo:∀ o,Below wr.heap.size wr (wr.alloc o):=fun o=>(Below.refl _ _).alloc (Nat.le_refl _) _
      cases hcl:(g.cls.toList==f.cls.toList)
      ·have HK:Hid (zcs true f g=true):=by
        rw [zaL] at hcl
        unfold zcs
        rw [hcl]
        exact rfl
       go_wp2
       go_roundw
       case rel=>exact ⟨m+1,by omega,by go_num,by rw [HP.out,HQ.out,HK.out];rfl,hb2.alloc (by omega) _⟩
       case measure=>simp [intOf];omega
      ·cases hss:decide (f.slots=g.slots)
       ·have HK:Hid (zcs true f g=true):=(show zcs true f g=true from by unfold zcs;rw [hss];simp)
        go_wp2_with (go_at_call 124;refine (zb5 s s' cs cs' f.slots g.slots _ (hsl2.below (hbo _)) (hsl'.below (hbo _)) HS).mono ?_;rintro e w3 ⟨rfl,hb3⟩)
        go_roundw
        case rel=>exact ⟨m+1,by omega,by go_num,by rw [HP.out,HQ.out,HK.out];rfl,(hb2.alloc (by omega) _).trans (hb3.mono (by simp;omega))⟩
        case measure=>simp [intOf];omega
       ·have HK:Hid (zcs true f g=false):=by
         rw [zaL] at hcl
         unfold zcs
         rw [hcl,hss]
         exact rfl
        go_wp2_with (go_at_call 124;refine (zb5 s s' cs cs' f.slots g.slots _ (hsl2.below (hbo _)) (hsl'.below (hbo _)) HS).mono ?_;rintro e w3 ⟨rfl,hb3⟩)
        go_ret
        refine ⟨zac ?_,hB.trans ((hb.mono (by omega)).trans ((hbw.alloc (by omega) _).trans (hb3.mono (by simp;omega)) |>.mono ?_))⟩
        ·rw [HG.out,HD.out,pairs,HP.out,HQ.out,HK.out]
         simp
        ·have:=hb.size
         omega
     ·go_wp2
      go_roundw
      case rel=>
       refine ⟨k+1,by omega,by go_num,?_,hb.trans (hbw.mono hb.size)⟩
       rw [HG.out,HD.out,pairs,HP.out,List.drop_eq_nil_of_le (by simp;omega),decide_eq_true (by omega),zbW fs k f hfk]
       rfl
      case measure=>simp [intOf];omega
  ·go_wp2
   go_ret
   exact ⟨zac (by rw [HG.out,List.drop_eq_nil_of_le (by omega),pairs]),hB.trans (hb.mono (by omega))⟩
set_option maxHeartbeats 1600000 in
theorem zeo (a:Option Addr) (c:Nat) (fs:List F) (nx cp:Int) (w:World) (hv:zaH w a fs) (hl:fs.length≤c) (hs:∀ f∈fs,Sized f) (hh:zeN fs nx cp=true) :
  Calls Tryz.prog 86 #[.agg #[.slice a fs.length c,.int .i64 nx,.int .i64 cp,.bool false]] w fun e w'=>
   e=.returned (.bool (zby fs nx cp false))∧Below w.heap.size w w':=by
 have B1:∀ o,Below w.heap.size w (w.alloc o):=fun o=>(Below.refl _ _).alloc (Nat.le_refl _) _
 have HR:Hid (zby fs nx cp false=pairs false nx [] fs):=by unfold zby;rw [hh];exact rfl
 obtain ⟨h1,h2,h3,h4,h5,h6⟩:0≤cp∧cp≤40∧(fs.length:Int)≤cp∧zaS fs=true∧1≤nx∧nx≤1000001:=by
  unfold zeN at hh
  simpa [Bool.and_eq_true] using hh
 clear hh
 go_enter Tryz.func86,Tryz.ntmps86
 go_wp2_with (go_at_call 64;refine (zbX a c fs _ (hv.below (B1 _)) (by omega) hs).mono ?_;rintro e w' ⟨rfl,hb'⟩;obtain ⟨hc,hf⟩:=bcell hb')
 have q0:w'.cell? ⟨w.heap.size,0,none⟩=some (.slice a fs.length c):=by rw [hc _ _ (by simp)];simp [go_sem]
 have q1:w'.cell? ⟨w.heap.size,1,none⟩=some (.int .i64 nx):=by rw [hc _ _ (by simp)];simp [go_sem]
 have q3:w'.cell? ⟨w.heap.size,3,none⟩=some (.bool false):=by rw [hc _ _ (by simp)];simp [go_sem]
 have hB:Below w.heap.size w w':=(B1 _).trans (hb'.mono (by simp))
 have hz:w.heap.size<w'.heap.size:=by have:=hb'.size;simp at this;omega
 clear hc hf hb' B1
 go_loopw [42] (fun i wr=>∃ (k:Nat),k≤fs.length∧i=.int .i64 k∧zby fs nx cp false=pairs false nx (fs.take k) (fs.drop k)∧Below w'.heap.size w' wr) (fun i _=>fs.length - (intOf i).toNat)
 case atStart=>exact ⟨0,by omega,rfl,HR.out,Below.refl _ _⟩
 case round=>
  obtain ⟨wo,rfl⟩:∃ x,x=wr:=⟨wr,rfl⟩
  obtain ⟨k,hk,rfl,hG,hb⟩:=hrel
  have HG:Hid (zby fs nx cp false=pairs false nx (fs.take k) (fs.drop k)):=hG
  clear hG
  have r0:=zaa hb q0
  have r1:=zaa hb q1
  have r3:=zaa hb q3
  have hz':w.heap.size<wo.heap.size:=Nat.lt_of_lt_of_le hz hb.size
  by_cases hkl:k<fs.length
  ·obtain ⟨f,hfk⟩:∃ f,fs[k]?=some f:=⟨fs[k],by simp [hkl]⟩
   have HD:Hid (fs.drop k=f :: fs.drop (k+1)):=zak hfk
   have hvr:=(hv.below hB).below hb
   obtain ⟨b,o,rfl,c0,c1,s,cs,c2,hsl⟩:=hvr k f hfk
   by_cases h7:nx≤f.tag
   ·go_wp2
    go_ret
    exact ⟨zac (by rw [HG.out,HD.out,pairs,decide_eq_false (by omega)];rfl),hB.trans (((hb.alloc hb.size _)).mono (by omega))⟩
   ·have W1c:∀ o,Below wo.heap.size wo (wo.alloc o):=fun o=>(Below.refl _ _).alloc (Nat.le_refl _) _
    go_wp2
    go_loopw [57] (fun j w2=>∃ (m:Nat),m≤k∧j=.int .i64 m∧pre1 false f (fs.take k)=pre1 false f ((fs.take k).drop m)∧Below (wo.heap.size+1) (wo.alloc (.cells #[.int .i64 f.tag,.string f.cls,.slice s f.slots.length cs] 42)) w2) (fun j _=>k - (intOf j).toNat)
    case atStart=>exact ⟨0,by omega,rfl,rfl,Below.refl _ _⟩
    case round=>
     obtain ⟨m,hm,rfl,hP,hb2⟩:=hrel
     have HP:Hid (pre1 false f (fs.take k)=pre1 false f ((fs.take k).drop m)):=hP
     clear hP
     have hb2':=hb2
     rw [← World.size_alloc] at hb2'
     have hbw:Below wo.heap.size wo wr:=(W1c _).trans (hb2'.mono (by simp))
     have s1:wr.cell? ⟨wo.heap.size,1,none⟩=some (.string f.cls):=zaa hb2' (by simp [go_sem])
     have s2:wr.cell? ⟨wo.heap.size,2,none⟩=some (.slice s f.slots.length cs):=zaa hb2' (by simp [go_sem])
     have t3:=zaa hbw r3
     have hz2:wo.heap.size<wr.heap.size:=by have:=hb2'.size;simp at this;omega
     have hz3:w.heap.size<wr.heap.size:=by omega
     by_cases hml:m<k
     ·obtain ⟨g,hgm⟩:∃ g,fs[m]?=some g:=⟨fs[m],by simp⟩
      have HQ:Hid (pre1 false f ((fs.take k).drop m)=(zcs false f g && pre1 false f ((fs.take k).drop (m+1)))):=zhM (by rw [List.getElem?_take_of_lt hml];exact hgm)
      obtain ⟨b',o',he',d0,d1,s',cs',d2,hsl'⟩:=(hvr.below hbw) m g hgm
      simp only [Option.some.injEq,Addr.mk.injEq,and_true] at he'
      obtain ⟨rfl,rfl⟩:=he'
      have HK:Hid (zcs false f g=true):=by unfold zcs;exact rfl
      go_wp2
      go_roundw
      case rel=>exact ⟨m+1,by omega,by go_num,by rw [HP.out,HQ.out,HK.out];rfl,hb2.alloc (by omega) _⟩
      case measure=>simp [intOf];omega
     ·go_wp2
      go_roundw
      case rel=>
       refine ⟨k+1,by omega,by go_num,?_,hb.trans (hbw.mono hb.size)⟩
       rw [HG.out,HD.out,pairs,HP.out,List.drop_eq_nil_of_le (by simp;omega),decide_eq_true (by omega),zbW fs k f hfk]
       rfl
      case measure=>simp [intOf];omega
  ·go_wp2
   go_ret
   exact ⟨zac (by rw [HG.out,List.drop_eq_nil_of_le (by omega),pairs]),hB.trans (hb.mono (by omega))⟩
theorem zbY (a:Option Addr) (c:Nat) (fs:List F) (nx cp:Int) (sg:Bool) (w:World) (hv:zaH w a fs) (hl:fs.length≤c) (hl':fs.length≤1048576) (hs:∀ f∈fs,Sized f) :
  Calls Tryz.prog 86 #[.agg #[.slice a fs.length c,.int .i64 nx,.int .i64 cp,.bool sg]] w fun e w'=>
   e=.returned (.bool (zby fs nx cp sg))∧Below w.heap.size w w':=by
 cases hh:zeN fs nx cp
 ·exact zfo a c fs nx cp sg w hv hl' hs hh
 ·cases sg
  ·exact zeo a c fs nx cp w hv hl hs hh
  ·exact zeP a c fs nx cp w hv hl hs hh
end Go.Proofs.YtmmdlgjmplddiaaGreat
