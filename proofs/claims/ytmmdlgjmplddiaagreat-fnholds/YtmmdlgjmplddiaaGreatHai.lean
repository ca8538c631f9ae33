/-
  OUR OWN TEXT. Spec3, Spec2, Key, KeyLit, Unl, Im10, Impl1, one behind the other.
-/
import Derived.Test.YtmmdlgjmplddiaaGreatHah
import Derived.Test.YtmmdlgjmplddiaaGreatHaa
import Derived.Deep.RegionHeld3
import Derived.Deep.DrawnRows
import Derived.Maps.RangeWalk
import Derived.Maps.OwnSet
import Derived.DeepKeys4
import Derived.Deep.RegionWith
namespace Go.Proofs.YtmmdlgjmplddiaaGreat
open Go.RowKit
def Sized (f:F):Prop:=f.cls.size≤maxLen∧f.slots.length≤1048576∧∀ v∈f.slots,v.sym.size≤maxLen
set_option maxHeartbeats 1600000 in
theorem zb3 (a:Option Addr) (c:Nat) (fs:List F) (w:World) (hv:zaG w a fs) (hl:fs.length≤1048576) (hs:∀ f∈fs,Sized f) :
  Calls Tryz.prog 64 #[.slice a fs.length c] w fun e w'=>
   e=.returned (.bool (zaS fs))∧Below w.heap.size w w':=by
 obtain ⟨G⟩:Nonempty (Hid (zaS fs=(decide (fs.length≤40) && zbm 0 fs))):=⟨rfl⟩
 by_cases h6:40<fs.length
 ·have h6':(40:Int)<(fs.length:Int):=by omega
  go_enter Tryz.func64,Tryz.ntmps64
  go_wp2
  go_ret
  exact ⟨zac (by rw [G.out,decide_eq_false (by omega)];rfl),Below.refl _ _⟩
 ·have h6':¬ (40:Int)<(fs.length:Int):=by omega
  go_enter Tryz.func64,Tryz.ntmps64
  go_wp2
  go_loopw [3,11] (fun l i wr=>∃ (k:Nat) (last:Int),k≤fs.length∧i=.int .i64 k∧l=.int .i64 last∧zaS fs=zbm last (fs.drop k)∧Below w.heap.size w wr) (fun _ i _=>fs.length - (intOf i).toNat)
  case atStart=>exact ⟨0,0,by omega,rfl,rfl,by rw [G.out,decide_eq_true (by omega)];rfl,Below.refl _ _⟩
  case round=>
   obtain ⟨k,last,hk,rfl,rfl,hG,hb⟩:=hrel
   have HG:Hid (zaS fs=zbm last (fs.drop k)):=hG
   clear hG
   by_cases hkl:k<fs.length
   ·obtain ⟨f,hfk⟩:∃ f,fs[k]?=some f:=⟨fs[k],by simp [hkl]⟩
    obtain ⟨b,o,rfl,c0,c1,s,cs,c2,hsl⟩:=hv.below hb k f hfk
    obtain ⟨hs1,hs2,hs3⟩:=hs f (List.mem_of_getElem? hfk)
    have HD:Hid (fs.drop k=f :: fs.drop (k+1)):=zan hfk
    have HO:Hid (okF last f=(decide (last<f.tag) && (decide (f.tag≤1000000) && (gSym f.cls.data.toList && zbp f.slots)))):=rfl
    have B1:∀ o,Below wr.heap.size wr (wr.alloc o):=fun o=>(Below.refl _ _).alloc (Nat.le_refl _) _
    have bad:Hid (okF last f=false→zaS fs=false):=fun e=>by rw [HG.out,HD.out,zbm,e];rfl
    have good:Hid (okF last f=true→zaS fs=zbm f.tag (fs.drop (k+1))):=fun e=>by rw [HG.out,HD.out,zbm,e];rfl
    by_cases h1:f.tag≤last
    ·have HB:Hid (zaS fs=false):=bad.out (by rw [HO.out,decide_eq_false (by omega)];rfl)
     go_wp2
     go_ret
     exact ⟨zac HB.out.symm,hb.trans ((B1 _).mono hb.size)⟩
    ·by_cases h2:1000000<f.tag
     ·have HB:Hid (zaS fs=false):=bad.out (by rw [HO.out,decide_eq_false (p:=f.tag≤1000000) (by omega)];simp)
      go_wp2
      go_ret
      exact ⟨zac HB.out.symm,hb.trans ((B1 _).mono hb.size)⟩
     ·cases h3:gSym f.cls.data.toList
      ·have HB:Hid (zaS fs=false):=bad.out (by rw [HO.out,h3];simp)
       go_wp2_with (go_at_call 87;refine (zaH f.cls _ hs1).mono ?_;rintro e w' ⟨rfl,rfl⟩)
       go_ret
       exact ⟨zac HB.out.symm,hb.trans ((B1 _).mono hb.size)⟩
      ·cases h4:zbp f.slots
       ·have HB:Hid (zaS fs=false):=bad.out (by rw [HO.out,h4];simp)
        go_wp2_with (first | (go_at_call 87;refine (zaH f.cls _ hs1).mono ?_;rintro e w' ⟨rfl,rfl⟩) | (go_at_call 88;refine (zb4 s cs f.slots _ (hsl.below (B1 _)) hs2 hs3).mono ?_;rintro e w1 ⟨rfl,hb'⟩))
        go_ret
        exact ⟨zac HB.out.symm,hb.trans (((B1 _).trans (hb'.mono (by simp))).mono hb.size)⟩
       ·have HB:Hid (zaS fs=zbm f.tag (fs.drop (k+1))):=good.out (by rw [HO.out,h3,h4,decide_eq_true (by omega),decide_eq_true (by omega)];rfl)
        go_wp2_with (first | (go_at_call 87;refine (zaH f.cls _ hs1).mono ?_;rintro e w' ⟨rfl,rfl⟩) | (go_at_call 88;refine (zb4 s cs f.slots _ (hsl.below (B1 _)) hs2 hs3).mono ?_;rintro e w1 ⟨rfl,hb'⟩;obtain ⟨hc,hf⟩:=bcell hb'))
        go_roundw
        case rel=>exact ⟨k+1,f.tag,by omega,by go_num,rfl,HB.out,hb.trans (((B1 _).trans (hb'.mono (by simp))).mono hb.size)⟩
        case measure=>simp [intOf];omega
   ·go_wp2
    go_ret
    exact ⟨zac (by rw [HG.out,List.drop_eq_nil_of_le (by omega)];rfl),hb⟩
end Go.Proofs.YtmmdlgjmplddiaaGreat
namespace Go.Proofs.YtmmdlgjmplddiaaGreat
open Go.RowKit
attribute [local go_sem ↓] Go.wp_at_zero Go.wp_at_succ
set_option maxHeartbeats 1600000 in
theorem zb1 (a a':Option Addr) (c c':Nat) (vs us:List V) (w:World) (hv:zaY w a vs) (hv':zaY w a' us) (hl:vs.length≤1048576) :
  Calls Tryz.prog 124 #[.slice a vs.length c,.slice a' us.length c'] w fun e w'=>
   e=.returned (.bool (decide (vs=us)))∧Below w.heap.size w w':=by
 by_cases hll:vs.length=us.length
 ·have t1:((vs.length:Int) != (us.length:Int))=false:=by simp;omega
  have HLL:Hid (vs.length=us.length):=hll
  have l1:vs.length≤us.length:=by omega
  have l2:us.length≤vs.length:=by omega
  clear hll
  go_enter Tryz.func124,Tryz.ntmps124
  go_wp2
  go_loopw [13] (fun i wr=>∃ (k:Nat),k≤vs.length∧i=.int .i64 k∧decide (vs=us)=decide (vs.drop k=us.drop k)∧Below w.heap.size w wr) (fun i _=>vs.length - (intOf i).toNat)
  case atStart=>exact ⟨0,by omega,rfl,rfl,Below.refl _ _⟩
  case round=>
   obtain ⟨k,hk,rfl,hG,hb⟩:=hrel
   have HG:Hid (decide (vs=us)=decide (vs.drop k=us.drop k)):=hG
   clear hG
   by_cases hkl:k<vs.length
   ·obtain ⟨v,hvk⟩:∃ v,vs[k]?=some v:=⟨vs[k],by simp [hkl]⟩
    obtain ⟨u,huk⟩:∃ u,us[k]?=some u:=⟨us[k]'(by omega),by simp⟩
    obtain ⟨b,o,rfl,c0,c1,c2⟩:=hv.below hb k v hvk
    obtain ⟨b',o',rfl,d0,d1,d2⟩:=hv'.below hb k u huk
    have HD:Hid (vs.drop k=v :: vs.drop (k+1)):=zan hvk
    have HD':Hid (us.drop k=u :: us.drop (k+1)):=zan huk
    have z0:(0:Int)≤(k:Int):=by omega
    have z1:(k:Int)<(vs.length:Int):=by omega
    have z2:(k:Int)<(us.length:Int):=by omega
    cases e1:(v.kind==u.kind) <;> cases e2:(v.num==u.num) <;> cases e3:(v.sym.toList==u.sym.toList)
    all_goals
     go_wp2
     go_region_held3 (fun w'=>w'.cell? ⟨b,o+k * 3,none⟩=some (.int .i64 v.kind)∧w'.cell? ⟨b,o+k * 3+1,none⟩=some (.int .i64 v.num)∧w'.cell? ⟨b,o+k * 3+2,none⟩=some (.string v.sym)∧w'.cell? ⟨b',o'+k * 3,none⟩=some (.int .i64 u.kind)∧w'.cell? ⟨b',o'+k * 3+1,none⟩=some (.int .i64 u.num)∧w'.cell? ⟨b',o'+k * 3+2,none⟩=some (.string u.sym)) (go_keep) (fail)
     go_wp2
    all_goals
     first
     | (go_roundw
        case rel=>exact ⟨k+1,by omega,by go_num,by rw [HG.out,HD.out,HD'.out,zmX (veq e1 e2 e3)],hb.drew⟩
        case measure=>simp [intOf];omega)
     | (go_ret
        exact ⟨zac (by rw [HG.out,HD.out,HD'.out,zmQ (by rintro rfl;simp at e1 e2 e3)]),hb.drew⟩)
   ·go_wp2
    go_ret
    exact ⟨zac (by rw [HG.out,List.drop_eq_nil_of_le (by omega),List.drop_eq_nil_of_le (by omega)];rfl),hb⟩
 ·have t1:((vs.length:Int) != (us.length:Int))=true:=by simp;omega
  go_enter Tryz.func124,Tryz.ntmps124
  go_wp2
  go_ret
  exact ⟨zac (by rw [decide_eq_false (fun e=>hll (by rw [e]))]),Below.refl _ _⟩
end Go.Proofs.YtmmdlgjmplddiaaGreat
namespace Go.Proofs.YtmmdlgjmplddiaaGreat
open Go.RowKit
attribute [local go_sem ↓] Go.wp_at_zero Go.wp_at_succ
theorem zi2 (vs:List V):(vs.flatMap V.cells).length=vs.length * 3:=by
 induction vs with
 | nil=>rfl
 | cons v r ih=>simp [ih,V.cells];omega
theorem zlO (vs:List V):∀ x∈vs.flatMap V.cells,x.oneCell'=true:=by
 intro x hx
 obtain ⟨v,_,hv⟩:=List.mem_flatMap.1 hx
 simp [V.cells] at hv
 rcases hv with rfl | rfl | rfl <;> rfl
theorem zko (vs:List V) (j:Nat) (x:Value) (h:(vs.flatMap V.cells)[j]?=some x):∃ v,vs[j / 3]?=some v∧v.cells[j % 3]?=some x:=by
 induction vs generalizing j with
 | nil=>simp at h
 | cons v r ih=>
  rw [List.flatMap_cons] at h
  by_cases hj:j<3
  ·rw [List.getElem?_append_left (by simpa [V.cells] using hj)] at h
   refine ⟨v,?_,?_⟩
   ·rw [show j / 3=0 by omega];rfl
   ·rwa [show j % 3=j by omega]
  ·rw [List.getElem?_append_right (by simp [V.cells];omega)] at h
   obtain ⟨u,h1,h2⟩:=ih (j - v.cells.length) h
   simp only [V.cells,List.length_cons,List.length_nil] at h1 h2
   refine ⟨u,?_,?_⟩
   ·rw [show j / 3=(j - (0+1+1+1)) / 3+1 by omega];exact h1
   ·rwa [show j % 3=(j - (0+1+1+1)) % 3 by omega]
theorem zaY.flat {w:World}{ad:Addr}{vs:List V} (h:zaY w (some ad) vs) (j:Nat) (x:Value) (hx:(vs.flatMap V.cells)[j]?=some x):w.cell? (ad.add j)=some x:=by
 obtain ⟨v,hv,hc⟩:=zko vs j x hx
 obtain ⟨b,o,he,h0,h1,h2⟩:=h _ v hv
 cases he
 have hadd:(⟨b,o,none⟩:Addr).add j=⟨b,o+j,none⟩:=Addr.add_mid b o j
 rw [hadd]
 rcases (show j % 3=0∨j % 3=1∨j % 3=2 by omega) with e | e | e <;> rw [e] at hc <;> simp [V.cells] at hc <;> subst hc
 ·rw [show o+j=o+j / 3 * 3 by omega];exact h0
 ·rw [show o+j=o+j / 3 * 3+1 by omega];exact h1
 ·rw [show o+j=o+j / 3 * 3+2 by omega];exact h2
theorem zaY.nil {w:World}{vs:List V} (h:zaY w none vs):vs.length=0:=by
 cases vs with
 | nil=>rfl
 | cons v r=>
  obtain ⟨b,o,he,_⟩:=h 0 v rfl
  cases he
theorem zix (w:World) (o:Obj) (n:Nat) (h:w.heap.size=n):(w.alloc o).heap[n]?=some o:=by
 subst h
 exact heap_alloc_new _ _
end Go.Proofs.YtmmdlgjmplddiaaGreat
namespace Go.Proofs.YtmmdlgjmplddiaaGreat
open Go.RowKit Go.Maps
end Go.Proofs.YtmmdlgjmplddiaaGreat
namespace Go.Proofs.YtmmdlgjmplddiaaGreat
open Go.RowKit Go.Maps
attribute [local go_sem ↓] Go.wp_at_zero Go.wp_at_succ
theorem zeG {P:Program}{t k e:TypeId} (ht:P.underlying t=some (.map k e)) (n:Int) (w:World):(Instr.makeMap t (some (.int .i64 n))).run P w=.ok (.map (some w.heap.size)) (w.alloc (.map #[] 0)):=by
 simp [Instr.makeMap,run_underlying ht,asInt,asIntOf]
theorem hidden {p:Prop} (h:p):Hid p:=h
end Go.Proofs.YtmmdlgjmplddiaaGreat
namespace Go.Proofs.YtmmdlgjmplddiaaGreat
open Go.RowKit
def zkq (f:F):Bool:=decide (1≤f.tag) && (decide (f.tag≤1000000) && (gSym f.cls.data.toList && zbp f.slots))
theorem zfZ {f:F}{x:Bool} (h:1≤f.tag) (e:zkq f=x):(decide (f.tag≤1000000) && (gSym f.cls.data.toList && zbp f.slots))=x:=by
 unfold zkq at e
 rwa [decide_eq_true h,Bool.true_and] at e
set_option maxHeartbeats 800000 in
theorem zc4 (v:V) (w:World) (hs:v.sym.size≤maxLen) :
  Calls Tryz.prog 138 #[.agg #[.int .i64 v.kind,.int .i64 v.num,.string v.sym]] w fun e w'=>
   e=.returned (.bool (gVal v))∧Below w.heap.size w w':=by
 have B1:∀ o,Below w.heap.size w (w.alloc o):=fun o=>(Below.refl _ _).alloc (Nat.le_refl _) _
 obtain ⟨G⟩:Nonempty (Hid (gVal v=((v.kind==0 && v.sym.toList.isEmpty) || (v.kind==1 && (v.num==0 && gSym v.sym.data.toList))))):=⟨rfl⟩
 have hg:=zaQ v.sym (w.alloc (.cells #[.int .i64 v.kind,.int .i64 v.num,.string v.sym] 109)) hs
 have hx:Hid ((v.kind==0)=true→(v.kind==1)=false):=fun h=>by simp at h;simp [h]
 cases h1:(v.kind==0) <;> cases h2:v.sym.toList.isEmpty <;> cases h3:(v.kind==1) <;> cases h4:(v.num==0)
 all_goals
  first
  | (exfalso;have:=hx.out h1;rw [h3] at this;cases this;done)
  | (go_enter Tryz.func138,Tryz.ntmps138
     go_wp2_with (go_at_call 106;refine hg.mono ?_;rintro e w' ⟨rfl,rfl⟩)
     go_ret
     exact ⟨zac (by rw [G.out,h1,h2,h3,h4];simp),B1 _⟩)
end Go.Proofs.YtmmdlgjmplddiaaGreat
namespace Go.Proofs.YtmmdlgjmplddiaaGreat
open Go.RowKit
set_option maxHeartbeats 800000 in
theorem zgO (a:Option Addr) (c:Nat) (vs:List V) (w:World) (hv:zaY w a vs) (hl:vs.length≤1048576) (hs:∀ v∈vs,v.sym.size≤maxLen) :
  Calls Tryz.prog 107 #[.slice a vs.length c] w fun e w'=>
   e=.returned (.bool (zbp vs))∧Below w.heap.size w w':=by
 obtain ⟨G⟩:Nonempty (Hid (zbp vs=(decide (vs.length≤6) && vs.all gVal))):=⟨rfl⟩
 by_cases h6:6<vs.length
 ·have h6':(6:Int)<(vs.length:Int):=by omega
  go_enter Tryz.func107,Tryz.ntmps107
  go_wp2
  go_ret
  exact ⟨zac (by rw [G.out,decide_eq_false (by omega)];rfl),Below.refl _ _⟩
 ·have h6':¬ (6:Int)<(vs.length:Int):=by omega
  go_enter Tryz.func107,Tryz.ntmps107
  go_wp2
  go_loopw [10] (fun i wr=>∃ (k:Nat),k≤vs.length∧i=.int .i64 k∧zbp vs=(vs.drop k).all gVal∧Below w.heap.size w wr) (fun i _=>vs.length - (intOf i).toNat)
  case atStart=>exact ⟨0,by omega,rfl,by rw [G.out,decide_eq_true (by omega)];rfl,Below.refl _ _⟩
  case round=>
   obtain ⟨k,hk,rfl,hG,hb⟩:=hrel
   have HG:Hid (zbp vs=(vs.drop k).all gVal):=hG
   clear hG
   by_cases hkl:k<vs.length
   ·obtain ⟨v,hvk⟩:∃ v,vs[k]?=some v:=⟨vs[k],by simp [hkl]⟩
    obtain ⟨b,o,rfl,c0,c1,c2⟩:=hv.below hb k v hvk
    have hsv:v.sym.size≤maxLen:=hs v (List.mem_of_getElem? hvk)
    have HD:Hid (vs.drop k=v :: vs.drop (k+1)):=by
     obtain ⟨h,rfl⟩:=List.getElem?_eq_some_iff.1 hvk
     exact List.drop_eq_getElem_cons h
    have B1:∀ o,Below wr.heap.size wr (wr.alloc o):=fun o=>(Below.refl _ _).alloc (Nat.le_refl _) _
    cases hgv:gVal v
    all_goals
     go_wp2_with (go_at_call 138;refine (zc4 v _ hsv).mono ?_;rintro e w' ⟨rfl,hb'⟩)
    ·go_ret
     exact ⟨zac (by rw [HG.out,HD.out,List.all_cons,hgv];rfl),hb.trans (((B1 _).trans (hb'.mono (by simp))).mono hb.size)⟩
    ·go_roundw
     case rel=>exact ⟨k+1,by omega,by go_num,by rw [HG.out,HD.out,List.all_cons,hgv];rfl,hb.trans (((B1 _).trans (hb'.mono (by simp))).mono hb.size)⟩
     case measure=>simp [intOf];omega
   ·go_wp2
    go_ret
    exact ⟨zac (by rw [HG.out,List.drop_eq_nil_of_le (by omega)];rfl),hb⟩
set_option maxHeartbeats 800000 in
theorem zeB (f:F) (a:Option Addr) (c:Nat) (w:World) (hv:zaY w a f.slots) (hc:f.cls.size≤maxLen) (hl:f.slots.length≤1048576) (hs:∀ v∈f.slots,v.sym.size≤maxLen) :
  Calls Tryz.prog 69 #[.agg #[.int .i64 f.tag,.string f.cls,.slice a f.slots.length c]] w fun e w'=>
   e=.returned (.bool (zkq f))∧Below w.heap.size w w':=by
 have B1:∀ o,Below w.heap.size w (w.alloc o):=fun o=>(Below.refl _ _).alloc (Nat.le_refl _) _
 obtain ⟨G⟩:Nonempty (Hid (zkq f=(decide (1≤f.tag) && (decide (f.tag≤1000000) && (gSym f.cls.data.toList && zbp f.slots))))):=⟨rfl⟩
 by_cases h1:1≤f.tag
 ·by_cases h2:f.tag≤1000000
  ·have d1:decide (1≤f.tag)=true:=decide_eq_true h1
   have d2:decide (f.tag≤1000000)=true:=decide_eq_true h2
   cases h3:gSym f.cls.data.toList <;> cases h4:zbp f.slots
   all_goals
    go_enter Tryz.func69,Tryz.ntmps69
    go_wp2_with (first | (go_at_call 106;refine (zaQ f.cls _ hc).mono ?_;rintro e w' ⟨rfl,rfl⟩) | (go_at_call 107;refine (zgO a c f.slots _ (hv.below (B1 _)) hl hs).mono ?_;rintro e w' ⟨rfl,hb'⟩))
    go_ret
    first
    | exact ⟨zac (by rw [G.out,d1,d2,h3,h4];rfl),B1 _⟩
    | exact ⟨zac (by rw [G.out,d1,d2,h3,h4];rfl),(B1 _).trans (hb'.mono (by simp))⟩
  ·have d2:decide (f.tag≤1000000)=false:=decide_eq_false h2
   go_enter Tryz.func69,Tryz.ntmps69
   go_wp2
   go_ret
   exact ⟨zac (by rw [G.out,d2];simp),B1 _⟩
 ·have d1:decide (1≤f.tag)=false:=decide_eq_false h1
  go_enter Tryz.func69,Tryz.ntmps69
  go_wp2
  go_ret
  exact ⟨zac (by rw [G.out,d1];rfl),B1 _⟩
set_option maxHeartbeats 1600000 in
theorem zgs (a:Option Addr) (c:Nat) (fs:List F) (w:World) (hv:zaG w a fs) (hl:fs.length≤1048576) (hs:∀ f∈fs,Sized f) :
  Calls Tryz.prog 33 #[.slice a fs.length c] w fun e w'=>
   e=.returned (.bool (zaS fs))∧Below w.heap.size w w':=by
 obtain ⟨G⟩:Nonempty (Hid (zaS fs=(decide (fs.length≤40) && zbm 0 fs))):=⟨rfl⟩
 by_cases h6:40<fs.length
 ·have h6':(40:Int)<(fs.length:Int):=by omega
  go_enter Tryz.func33,Tryz.ntmps33
  go_wp2
  go_ret
  exact ⟨zac (by rw [G.out,decide_eq_false (by omega)];rfl),Below.refl _ _⟩
 ·have h6':¬ (40:Int)<(fs.length:Int):=by omega
  go_enter Tryz.func33,Tryz.ntmps33
  go_wp2
  go_loopw [3,11] (fun l i wr=>∃ (k:Nat) (last:Int),0≤last∧k≤fs.length∧i=.int .i64 k∧l=.int .i64 last∧zaS fs=zbm last (fs.drop k)∧Below w.heap.size w wr) (fun _ i _=>fs.length - (intOf i).toNat)
  case atStart=>exact ⟨0,0,by omega,by omega,rfl,rfl,by rw [G.out,decide_eq_true (by omega)];rfl,Below.refl _ _⟩
  case round=>
   obtain ⟨k,last,hla,hk,rfl,rfl,hG,hb⟩:=hrel
   have HG:Hid (zaS fs=zbm last (fs.drop k)):=hG
   clear hG
   by_cases hkl:k<fs.length
   ·obtain ⟨f,hfk⟩:∃ f,fs[k]?=some f:=⟨fs[k],by simp [hkl]⟩
    obtain ⟨b,o,rfl,c0,c1,s,cs,c2,hsl⟩:=hv.below hb k f hfk
    obtain ⟨hs1,hs2,hs3⟩:=hs f (List.mem_of_getElem? hfk)
    have HD:Hid (fs.drop k=f :: fs.drop (k+1)):=zan hfk
    have HO:Hid (okF last f=(decide (last<f.tag) && (decide (f.tag≤1000000) && (gSym f.cls.data.toList && zbp f.slots)))):=rfl
    have B1:∀ o,Below wr.heap.size wr (wr.alloc o):=fun o=>(Below.refl _ _).alloc (Nat.le_refl _) _
    have bad:Hid (okF last f=false→zaS fs=false):=fun e=>by rw [HG.out,HD.out,zbm,e];rfl
    have good:Hid (okF last f=true→zaS fs=zbm f.tag (fs.drop (k+1))):=fun e=>by rw [HG.out,HD.out,zbm,e];rfl
    by_cases h1:f.tag≤last
    ·have HB:Hid (zaS fs=false):=bad.out (by rw [HO.out,decide_eq_false (by omega)];rfl)
     go_wp2
     go_ret
     exact ⟨zac HB.out.symm,hb.trans ((B1 _).mono hb.size)⟩
    ·cases h3:zkq f
     ·have HB:Hid (zaS fs=false):=bad.out (by rw [HO.out,zfZ (by omega:1≤f.tag) h3,Bool.and_false])
      go_wp2_with (go_at_call 69;refine (zeB f s cs _ (hsl.below (B1 _)) hs1 hs2 hs3).mono ?_;rintro e w1 ⟨rfl,hb'⟩)
      go_ret
      exact ⟨zac HB.out.symm,hb.trans (((B1 _).trans (hb'.mono (by simp))).mono hb.size)⟩
     ·have HB:Hid (zaS fs=zbm f.tag (fs.drop (k+1))):=good.out (by rw [HO.out,zfZ (by omega:1≤f.tag) h3,decide_eq_true (by omega)];rfl)
      go_wp2_with (go_at_call 69;refine (zeB f s cs _ (hsl.below (B1 _)) hs1 hs2 hs3).mono ?_;rintro e w1 ⟨rfl,hb'⟩;obtain ⟨hc,hf⟩:=bcell hb')
      go_roundw
      case rel=>exact ⟨k+1,f.tag,by omega,by omega,by go_num,rfl,HB.out,hb.trans (((B1 _).trans (hb'.mono (by simp))).mono hb.size)⟩
      case measure=>simp [intOf];omega
   ·go_wp2
    go_ret
    exact ⟨zac (by rw [HG.out,List.drop_eq_nil_of_le (by omega)];rfl),hb⟩
end Go.Proofs.YtmmdlgjmplddiaaGreat
