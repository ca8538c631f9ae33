/-
  OUR OWN TEXT. Impl1, Bl, Bf1, Bf2, Rc3, Ag1, Rc2, one behind the other.
-/
import Derived.Test.YtmmdlgjmplddiaaGreatKaq
import Derived.Test.YtmmdlgjmplddiaaGreatSpec3m
import Derived.Test.YtmmdlgjmplddiaaGreatKas
import Derived.Test.YtmmdlgjmplddiaaGreatKak
import Derived.Test.YtmmdlgjmplddiaaGreatOwnm
import Derived.Test.YtmmdlgjmplddiaaGreatKar
import Derived.Test.YtmmdlgjmplddiaaGreatKaj
import Derived.Lib.Small
import Derived.Test.YtmmdlgjmplddiaaGreatShf
import Derived.Deep.RegionHeld3
import Derived.Deep.DrawnRows
import Derived.Sort.OwnSortedInts
import Derived.Test.YtmmdlgjmplddiaaGreatHp1m
namespace Go.Proofs.YtmmdlgjmplddiaaGreat
open Go.RowKit
set_option maxHeartbeats 800000 in
theorem zhk (a:Option Addr) (c:Nat) (vs:List V) (w:World) (hv:zaV w a vs) (hl:vs.length≤1048576) (hs:∀ v∈vs,v.sym.size≤maxLen) :
  Calls Tryz.prog 107 #[.slice a vs.length c] w fun e w'=>
   e=.returned (.bool (zbn vs))∧Below w.heap.size w w':=by
 obtain ⟨G⟩:Nonempty (Hid (zbn vs=(decide (vs.length≤6) && vs.all gVal))):=⟨rfl⟩
 by_cases h6:6<vs.length
 ·have h6':(6:Int)<(vs.length:Int):=by omega
  go_enter Tryz.func107,Tryz.ntmps107
  go_wp2
  go_ret
  exact ⟨zac (by rw [G.out,decide_eq_false (by omega)];rfl),Below.refl _ _⟩
 ·have h6':¬ (6:Int)<(vs.length:Int):=by omega
  go_enter Tryz.func107,Tryz.ntmps107
  go_wp2
  go_loopw [10] (fun i wr=>∃ (k:Nat),k≤vs.length∧i=.int .i64 k∧zbn vs=(vs.drop k).all gVal∧Below w.heap.size w wr) (fun i _=>vs.length - (intOf i).toNat)
  case atStart=>exact ⟨0,by omega,rfl,by rw [G.out,decide_eq_true (by omega)];rfl,Below.refl _ _⟩
  case round=>
   obtain ⟨k,hk,rfl,hG,hb⟩:=hrel
   have HG:Hid (zbn vs=(vs.drop k).all gVal):=hG
   clear hG
   by_cases hkl:k<vs.length
   ·obtain ⟨v,hvk⟩:∃ v,vs[k]?=some v:=⟨vs[k],by simp [hkl]⟩
    obtain ⟨b,o,rfl,c0,c1,c2⟩:=hv.below hb k v hvk
    have hsv:v.sym.size≤maxLen:=hs v (List.mem_of_getElem? hvk)
    have HD:Hid (vs.drop k=v :: vs.drop (k+1)):=by
     obtain ⟨h,rfl⟩:=List.getElem?_eq_some_iff.1 hvk
     exact List.drop_eq_getElem_cons h
    have B1:∀ o,Below wr.heap.size wr (wr.alloc o):=fun o=>(Below.refl _ _).alloc (Nat.le_refl _) _
    cases hgv:gVal v
    all_goals
     go_wp2_with (go_at_call 138;refine (zc8 v _ hsv).mono ?_;rintro e w' ⟨rfl,hb'⟩)
    ·go_ret
     exact ⟨zac (by rw [HG.out,HD.out,List.all_cons,hgv];rfl),hb.trans (((B1 _).trans (hb'.mono (by simp))).mono hb.size)⟩
    ·go_roundw
     case rel=>exact ⟨k+1,by omega,by go_num,by rw [HG.out,HD.out,List.all_cons,hgv];rfl,hb.trans (((B1 _).trans (hb'.mono (by simp))).mono hb.size)⟩
     case measure=>simp [intOf];omega
   ·go_wp2
    go_ret
    exact ⟨zac (by rw [HG.out,List.drop_eq_nil_of_le (by omega)];rfl),hb⟩
set_option maxHeartbeats 800000 in
theorem zey (f:F) (a:Option Addr) (c:Nat) (w:World) (hv:zaV w a f.slots) (hc:f.cls.size≤maxLen) (hl:f.slots.length≤1048576) (hs:∀ v∈f.slots,v.sym.size≤maxLen) :
  Calls Tryz.prog 69 #[.agg #[.int .i64 f.tag,.string f.cls,.slice a f.slots.length c]] w fun e w'=>
   e=.returned (.bool (zkW f))∧Below w.heap.size w w':=by
 have B1:∀ o,Below w.heap.size w (w.alloc o):=fun o=>(Below.refl _ _).alloc (Nat.le_refl _) _
 obtain ⟨G⟩:Nonempty (Hid (zkW f=(decide (1≤f.tag) && (decide (f.tag≤1000000) && (gSym f.cls.data.toList && zbn f.slots))))):=⟨rfl⟩
 by_cases h1:1≤f.tag
 ·by_cases h2:f.tag≤1000000
  ·have d1:decide (1≤f.tag)=true:=decide_eq_true h1
   have d2:decide (f.tag≤1000000)=true:=decide_eq_true h2
   cases h3:gSym f.cls.data.toList <;> cases h4:zbn f.slots
   all_goals
    go_enter Tryz.func69,Tryz.ntmps69
    go_wp2_with (first | (go_at_call 106;refine (zaO f.cls _ hc).mono ?_;rintro e w' ⟨rfl,rfl⟩) | (go_at_call 107;refine (zhk a c f.slots _ (hv.below (B1 _)) hl hs).mono ?_;rintro e w' ⟨rfl,hb'⟩))
    go_ret
    first
    | exact ⟨zac (by rw [G.out,d1,d2,h3,h4];rfl),B1 _⟩
    | exact ⟨zac (by rw [G.out,d1,d2,h3,h4];rfl),(B1 _).trans (hb'.mono (by simp))⟩
  ·have d2:decide (f.tag≤1000000)=false:=decide_eq_false h2
   go_enter Tryz.func69,Tryz.ntmps69
   go_wp2
   go_ret
   exact ⟨zac (by rw [G.out,d2];simp),B1 _⟩
 ·have d1:decide (1≤f.tag)=false:=decide_eq_false h1
  go_enter Tryz.func69,Tryz.ntmps69
  go_wp2
  go_ret
  exact ⟨zac (by rw [G.out,d1];rfl),B1 _⟩
set_option maxHeartbeats 1600000 in
theorem zho (a:Option Addr) (c:Nat) (fs:List F) (w:World) (hv:zaH w a fs) (hl:fs.length≤1048576) (hs:∀ f∈fs,Sized f) :
  Calls Tryz.prog 33 #[.slice a fs.length c] w fun e w'=>
   e=.returned (.bool (zaS fs))∧Below w.heap.size w w':=by
 obtain ⟨G⟩:Nonempty (Hid (zaS fs=(decide (fs.length≤40) && zbs 0 fs))):=⟨rfl⟩
 by_cases h6:40<fs.length
 ·have h6':(40:Int)<(fs.length:Int):=by omega
  go_enter Tryz.func33,Tryz.ntmps33
  go_wp2
  go_ret
  exact ⟨zac (by rw [G.out,decide_eq_false (by omega)];rfl),Below.refl _ _⟩
 ·have h6':¬ (40:Int)<(fs.length:Int):=by omega
  go_enter Tryz.func33,Tryz.ntmps33
  go_wp2
  go_loopw [3,11] (fun l i wr=>∃ (k:Nat) (last:Int),0≤last∧k≤fs.length∧i=.int .i64 k∧l=.int .i64 last∧zaS fs=zbs last (fs.drop k)∧Below w.heap.size w wr) (fun _ i _=>fs.length - (intOf i).toNat)
  case atStart=>exact ⟨0,0,by omega,by omega,rfl,rfl,by rw [G.out,decide_eq_true (by omega)];rfl,Below.refl _ _⟩
  case round=>
   obtain ⟨k,last,hla,hk,rfl,rfl,hG,hb⟩:=hrel
   have HG:Hid (zaS fs=zbs last (fs.drop k)):=hG
   clear hG
   by_cases hkl:k<fs.length
   ·obtain ⟨f,hfk⟩:∃ f,fs[k]?=some f:=⟨fs[k],by simp [hkl]⟩
    obtain ⟨b,o,rfl,c0,c1,s,cs,c2,hsl⟩:=hv.below hb k f hfk
    obtain ⟨hs1,hs2,hs3⟩:=hs f (List.mem_of_getElem? hfk)
    have HD:Hid (fs.drop k=f :: fs.drop (k+1)):=zak hfk
    have HO:Hid (okF last f=(decide (last<f.tag) && (decide (f.tag≤1000000) && (gSym f.cls.data.toList && zbn f.slots)))):=rfl
    have B1:∀ o,Below wr.heap.size wr (wr.alloc o):=fun o=>(Below.refl _ _).alloc (Nat.le_refl _) _
    have bad:Hid (okF last f=false→zaS fs=false):=fun e=>by rw [HG.out,HD.out,zbs,e];rfl
    have good:Hid (okF last f=true→zaS fs=zbs f.tag (fs.drop (k+1))):=fun e=>by rw [HG.out,HD.out,zbs,e];rfl
    by_cases h1:f.tag≤last
    ·have HB:Hid (zaS fs=false):=bad.out (by rw [HO.out,decide_eq_false (by omega)];rfl)
     go_wp2
     go_ret
     exact ⟨zac HB.out.symm,hb.trans ((B1 _).mono hb.size)⟩
    ·cases h3:zkW f
     ·have HB:Hid (zaS fs=false):=bad.out (by rw [HO.out,zgr (by omega:1≤f.tag) h3,Bool.and_false])
      go_wp2_with (go_at_call 69;refine (zey f s cs _ (hsl.below (B1 _)) hs1 hs2 hs3).mono ?_;rintro e w1 ⟨rfl,hb'⟩)
      go_ret
      exact ⟨zac HB.out.symm,hb.trans (((B1 _).trans (hb'.mono (by simp))).mono hb.size)⟩
     ·have HB:Hid (zaS fs=zbs f.tag (fs.drop (k+1))):=good.out (by rw [HO.out,zgr (by omega:1≤f.tag) h3,decide_eq_true (by omega)];rfl)
      go_wp2_with (go_at_call 69;refine (zey f s cs _ (hsl.below (B1 _)) hs1 hs2 hs3).mono ?_;rintro e w1 ⟨rfl,hb'⟩;obtain ⟨hc,hf⟩:=bcell hb')
      go_roundw
      case rel=>exact ⟨k+1,f.tag,by omega,by omega,by go_num,rfl,HB.out,hb.trans (((B1 _).trans (hb'.mono (by simp))).mono hb.size)⟩
      case measure=>simp [intOf];omega
   ·go_wp2
    go_ret
    exact ⟨zac (by rw [HG.out,List.drop_eq_nil_of_le (by omega)];rfl),hb⟩
end Go.Proofs.YtmmdlgjmplddiaaGreat
namespace Go.Proofs.YtmmdlgjmplddiaaGreat
open Go.RowKit
attribute [local go_sem ↓] Go.wp_at_zero Go.wp_at_succ
theorem hidB {p:Prop} (h:p):Hid p:=h
def bdV (o:Option V):Value:=match o with
 | some v=>.tuple #[.agg #[.int .i64 v.kind,.int .i64 v.num,.string v.sym],.bool true]
 | none=>.tuple #[.agg #[.int .i64 0,.int .i64 0,.string ⟨#[]⟩],.bool false]
def Bx3 (w:World) (b:Nat) (t:TypeId) (x0 x1 x2:Value):Prop:=w.heap[b]?=some (.cells #[x0,x1,x2] t (0,0))
theorem Bx3.facts {w:World}{b:Nat}{t:TypeId}{x0 x1 x2:Value} (h:Bx3 w b t x0 x1 x2):(w.cell? ⟨b,0,none⟩=some x0∧w.cell? ⟨b,1,none⟩=some x1∧w.cell? ⟨b,2,none⟩=some x2) ∧
  (w.frozen? ⟨b,0,none⟩=false∧w.frozen? ⟨b,1,none⟩=false∧w.frozen? ⟨b,2,none⟩=false)∧b<w.heap.size:=by
 unfold Bx3 at h
 refine ⟨⟨?_,?_,?_⟩,⟨?_,?_,?_⟩,zab h⟩ <;> simp [World.cell?,World.frozen?,h]
set_option maxHeartbeats 800000 in
theorem zgd (s:ByteArray) (a:Option Addr) (c:Nat) (bs:List Bd) {q:Option Nat} (w:World) (hv:zct q w a bs) (hl:bs.length≤1048576) :
  Calls Tryz.prog 129 #[.slice a bs.length c,.string s] w fun e w'=>e=.returned (bdV (zbl bs s))∧Below w.heap.size w w':=by
 have B0:∀ o,Below w.heap.size w (w.alloc o):=fun o=>(Below.refl _ _).alloc (Nat.le_refl _) _
 go_enter Tryz.func129,Tryz.ntmps129
 go_wp2
 go_loopw [10] (fun i wr=>∃ (k:Nat),k≤bs.length∧i=.int .i64 k∧zbl bs s=zbl (bs.drop k) s∧Bx3 wr w.heap.size 109 (.int .i64 0) (.int .i64 0) (.string ⟨#[]⟩)∧Below w.heap.size w wr) (fun i _=>bs.length - (intOf i).toNat)
 case atStart=>exact ⟨0,by omega,rfl,rfl,heap_alloc_new _ _,B0 _⟩
 case round=>
  obtain ⟨k,hk,rfl,hG,hbx,hb⟩:=hrel
  have HG:=hidB hG
  have HBX:=hidB hbx
  clear hG hbx
  obtain ⟨⟨f0,f1,f2⟩,⟨z0,z1,z2⟩,hlt⟩:=HBX.out.facts
  by_cases hkl:k<bs.length
  ·obtain ⟨x,hxk⟩:∃ x,bs[k]?=some x:=⟨bs[k],by simp [hkl]⟩
   obtain ⟨b,o,rfl,hq,c0,c1,c2,c3⟩:=(hv.below hb).get hxk
   have HD:Hid (bs.drop k=x :: bs.drop (k+1)):=zak hxk
   have B1:∀ o,Below w.heap.size w (wr.alloc o):=fun o=>hb.alloc hb.size _
   cases e1:(x.var.toList==s.toList)
   ·have HN:Hid (zbl bs s=zbl (bs.drop (k+1)) s):=show zbl bs s=_ from by
     rw [zaL] at e1
     have:¬ x.var=s:=fun h=>by subst h;simp at e1
     rw [HG.out,HD.out,zci,if_neg this]
    have HR1:Hid (∀ o,Bx3 (wr.alloc o) w.heap.size 109 (.int .i64 0) (.int .i64 0) (.string ⟨#[]⟩)):=show ∀ o,Bx3 (wr.alloc o) w.heap.size 109 (.int .i64 0) (.int .i64 0) (.string ⟨#[]⟩) from fun o=>(((Below.refl _ _).alloc (Nat.le_refl _) o).block _ hlt).trans HBX.out
    go_wp2
    go_roundw
    case rel=>exact ⟨k+1,by omega,by go_num,HN.out,HR1.out _,B1 _⟩
    case measure=>simp [intOf];omega
   ·have HN:Hid (zbl bs s=some x.val):=show zbl bs s=_ from by
     rw [zaL] at e1
     have:x.var=s:=by simpa using e1
     rw [HG.out,HD.out,zci,if_pos this]
    go_wp2
    refine bodyPost_ret (v:=bdV (some x.val)) (by simp [results,Tryz.results129,go_sem,f0,f1,f2,hlt,bdV]) rfl ⟨by rw [HN.out],?_⟩
    exact (((hb.setCell (by simp) _).setCell (by simp) _).setCell (by simp) _).alloc (by simp;exact hb.size) _
  ·have HN:Hid (zbl bs s=none):=show zbl bs s=_ from by rw [HG.out,List.drop_eq_nil_of_le (by omega)];rfl
   go_wp2
   refine bodyPost_ret (v:=bdV none) (by simp [results,Tryz.results129,go_sem,f0,f1,f2,bdV]) rfl ⟨by rw [HN.out],?_⟩
   exact ((hb.setCell (by simp) _).setCell (by simp) _).setCell (by simp) _
end Go.Proofs.YtmmdlgjmplddiaaGreat
namespace Go.Proofs.YtmmdlgjmplddiaaGreat
open Go.RowKit
def lexC:List Int→List Int→Int
 | [],[]=>0
 | [],_ :: _=>-1
 | _ :: _,[]=>1
 | x :: a,y :: b=>if Lib.compareInt x y=0 then lexC a b else Lib.compareInt x y
def lexT:List Int→List Int→Int
 | x :: a,y :: b=>if x<y then -1 else if y<x then 1 else lexT a b
 | [],b=>- (b.length:Int)
 | x :: a,[]=>((x :: a).length:Int)
theorem zaY (x y:Int):(x<y∧Lib.compareInt x y = -1)∨(y<x∧Lib.compareInt x y=1)∨(x=y∧Lib.compareInt x y=0):=by
 unfold Lib.compareInt
 by_cases h1:x<y
 ·exact .inl ⟨h1,by simp [h1]⟩
 ·by_cases h2:y<x
  ·exact .inr (.inl ⟨h2,by simp [h1,h2]⟩)
  ·exact .inr (.inr ⟨by omega,by simp [h1,h2]⟩)
theorem ze0:∀ (a b:List Int),(lexT a b<0 ↔ lexC a b<0)∧(0<lexT a b ↔ 0<lexC a b)
 | [],[]=>by simp [lexT,lexC]
 | [],y :: b=>by
  simp only [lexT,lexC,List.length_cons]
  omega
 | x :: a,[]=>by
  simp only [lexT,lexC,List.length_cons]
  omega
 | x :: a,y :: b=>by
  have h:=ze0 a b
  rcases zaY x y with ⟨h1,h2⟩ | ⟨h1,h2⟩ | ⟨h1,h2⟩
  ·simp [lexT,lexC,h1,h2]
  ·have h3:¬ x<y:=by omega
   simp [lexT,lexC,h1,h2,h3]
  ·subst h1
   simp [lexT,lexC,h2,h]
theorem znG (a b:List Int):lexT a b=0 ↔ lexC a b=0:=by
 have h:=ze0 a b
 omega
theorem zfl:∀ (a b:List Int),lexC b a = - lexC a b
 | [],[]=>by simp [lexC]
 | [],y :: b=>by simp [lexC]
 | x :: a,[]=>by simp [lexC]
 | x :: a,y :: b=>by
  have h:=zfl a b
  rcases zaY x y with ⟨h1,h2⟩ | ⟨h1,h2⟩ | ⟨h1,h2⟩ <;> rcases zaY y x with ⟨h3,h4⟩ | ⟨h3,h4⟩ | ⟨h3,h4⟩
  all_goals first | (exfalso;omega) | simp [lexC,h2,h4,h]
def orI:List Int→Int
 | []=>0
 | x :: r=>if x=0 then orI r else x
def zaJ (rs:List Ru) (x:In):Bool:=decide (0≤x.rule) && (decide (x.rule<(rs.length:Int)) && decide (x.tags.length≤3))
def zaZ (rs:List Ru) (x:In):Int:=((rs[x.rule.toNat]?).map Ru.sal).getD 0
def zfq (rs:List Ru) (a b:In):Int:=orI [Lib.compareInt (zaZ rs b) (zaZ rs a),lexC (recA b.tags) (recA a.tags),orI [Lib.compareInt a.rule b.rule,lexC a.tags b.tags]]
def befI (rs:List Ru) (a b:In):Bool:=decide (zfq rs a b<0)
def befS (rs:List Ru) (a b:In):Bool:=
 if zaZ rs a≠zaZ rs b then decide (zaZ rs b<zaZ rs a)
 else if lexT (recA a.tags) (recA b.tags)≠0 then decide (0<lexT (recA a.tags) (recA b.tags))
 else if a.rule≠b.rule then decide (a.rule<b.rule)
 else decide (lexT a.tags b.tags<0)
theorem zmO (rs:List Ru) (a b:In):befS rs a b=befI rs a b:=by
 unfold befS befI zfq
 rcases zaY (zaZ rs b) (zaZ rs a) with ⟨h1,h2⟩ | ⟨h1,h2⟩ | ⟨h1,h2⟩
 ·have h3:zaZ rs a≠zaZ rs b:=by omega
  simp [orI,h1,h2,h3]
 ·have h3:zaZ rs a≠zaZ rs b:=by omega
  have h4:¬ zaZ rs b<zaZ rs a:=by omega
  simp [orI,h2,h3,h4]
 ·rw [if_neg (by omega)]
  have hz:=znG (recA a.tags) (recA b.tags)
  have hs:=ze0 (recA a.tags) (recA b.tags)
  have hw:=zfl (recA a.tags) (recA b.tags)
  by_cases h0:lexT (recA a.tags) (recA b.tags)=0
  ·rw [if_neg (by omega)]
   have h5:lexC (recA b.tags) (recA a.tags)=0:=by omega
   rcases zaY a.rule b.rule with ⟨h6,h7⟩ | ⟨h6,h7⟩ | ⟨h6,h7⟩
   ·have h8:a.rule≠b.rule:=by omega
    simp [orI,h2,h5,h7,h8,h6]
   ·have h8:a.rule≠b.rule:=by omega
    have h9:¬ a.rule<b.rule:=by omega
    simp [orI,h2,h5,h7,h8,h9]
   ·have h10:=ze0 a.tags b.tags
    rw [if_neg (by omega)]
    have h11:decide (lexT a.tags b.tags<0)=decide (lexC a.tags b.tags<0):=by
     by_cases hd:lexC a.tags b.tags<0
     ·simp [hd,h10.1.2 hd]
     ·have:¬ lexT a.tags b.tags<0:=fun h=>hd (h10.1.1 h)
      simp [hd,this]
    rw [h11]
    by_cases hd:lexC a.tags b.tags=0
    ·simp [orI,h2,h5,h7,hd]
    ·simp [orI,h2,h5,h7,hd]
  ·rw [if_pos h0]
   have h5:lexC (recA b.tags) (recA a.tags)≠0:=by omega
   by_cases h6:0<lexT (recA a.tags) (recA b.tags)
   ·have h7:lexC (recA b.tags) (recA a.tags)<0:=by have:=hs.2.1 h6;omega
    simp [orI,h2,h5,h6,h7]
   ·have h7:¬ lexC (recA b.tags) (recA a.tags)<0:=by have:=fun h=>h6 (hs.2.2 h);omega
    simp [orI,h2,h5,h6,h7]
def bef (rs:List Ru) (a b:In):Bool:=zaJ rs a && (zaJ rs b && (decide ((chk rs).1=0) && befI rs a b))
end Go.Proofs.YtmmdlgjmplddiaaGreat
namespace Go.Proofs.YtmmdlgjmplddiaaGreat
open Go.RowKit
attribute [local go_sem ↓] Go.wp_at_zero Go.wp_at_succ
theorem zjT (x y:Int) (w:World):Calls Tryz.prog 113 #[.int .i64 x,.int .i64 y] w fun e w'=>e=.returned (.int .i64 (Lib.compareInt x y))∧w'=w:=AnyG.cmp_Compare_int Tryz.cmpI x y w
theorem zmH (x y:Int) (w:World):Calls Tryz.prog 78 #[.int .i64 x,.int .i64 y] w fun e w'=>e=.returned (.int .i64 (Lib.compareInt x y))∧w'=w:=AnyG.cmp_Compare_int Tryz.cmpL x y w
theorem retI {a b:Int} (h:b=a):Ending.returned (.int .i64 a)=.returned (.int .i64 b):=by rw [h]
theorem zmB {xs ys:List Int}{k:Nat}{x y:Int} (hx:xs[k]?=some x) (hy:ys[k]?=some y):lexC (xs.drop k) (ys.drop k)=if Lib.compareInt x y=0 then lexC (xs.drop (k+1)) (ys.drop (k+1)) else Lib.compareInt x y:=by
 rw [zak hx,zak hy,lexC]
set_option maxHeartbeats 800000 in
theorem zfV (a a':Option Addr) (c c':Nat) (xs ys:List Int) (w:World) {q q':Option Nat} (hv:zas q w a xs) (hv':zas q' w a' ys) (hl:xs.length≤1048576) (hl':ys.length≤1048576) :
  Calls Tryz.prog 79 #[.slice a xs.length c,.slice a' ys.length c'] w fun e w'=>e=.returned (.int .i64 (lexC xs ys))∧w'=w:=by
 go_enter Tryz.func79,Tryz.ntmps79
 go_wp2
 go_loopw [11] (fun i wr=>∃ (k:Nat),k≤xs.length∧k≤ys.length∧i=.int .i64 k∧lexC xs ys=lexC (xs.drop k) (ys.drop k)∧wr=w) (fun i _=>xs.length - (intOf i).toNat)
 case atStart=>exact ⟨0,by omega,by omega,rfl,rfl,rfl⟩
 case round=>
  obtain ⟨k,hk,hk',rfl,hG,rfl⟩:=hrel
  have HG:=hidB hG
  clear hG
  by_cases hkl:k<xs.length
  ·obtain ⟨x,hxk⟩:∃ x,xs[k]?=some x:=⟨xs[k],by simp [hkl]⟩
   obtain ⟨b,o,rfl,hq,d0⟩:=hv.get hxk
   by_cases hkl':k<ys.length
   ·obtain ⟨y,hyk⟩:∃ y,ys[k]?=some y:=⟨ys[k],by simp [hkl']⟩
    obtain ⟨b',o',rfl,hq',d1⟩:=hv'.get hyk
    have HL:=hidB (zmB hxk hyk)
    have HC:=hidB (zjT x y)
    by_cases hc:Lib.compareInt x y=0
    ·have HZ:=hidB hc
     rw [hc] at HC
     clear hc
     go_wp2_with (go_at_call 113;refine (HC.out _).mono ?_;rintro e w' ⟨rfl,rfl⟩)
     go_roundw
     case rel=>exact ⟨k+1,by omega,by omega,by go_num,by rw [HG.out,HL.out,if_pos HZ.out],by first | trivial | rfl⟩
     case measure=>simp [intOf];omega
    ·obtain ⟨r,hr⟩:∃ r,Lib.compareInt x y=r:=⟨_,rfl⟩
     rw [hr] at HC hc
     have HR:=hidB hr
     have HN:=hidB hc
     clear hr
     go_wp2_with (go_at_call 113;refine (HC.out _).mono ?_;rintro e w' ⟨rfl,rfl⟩)
     go_ret
     exact ⟨retI (by rw [HG.out,HL.out,HR.out,if_neg HN.out]),rfl⟩
   ·have hle:ys.length=k:=by omega
    have HE:=hidB (show lexC (xs.drop k) (ys.drop k)=1 from by rw [zak hxk,(List.drop_eq_nil_of_le (by omega):ys.drop k=[])];rfl)
    go_wp2_with fail
    go_ret
    exact ⟨retI (by rw [HG.out,HE.out]),rfl⟩
  ·by_cases hkl':k<ys.length
   ·obtain ⟨y,hyk⟩:∃ y,ys[k]?=some y:=⟨ys[k],by simp [hkl']⟩
    have HE:=hidB (show lexC (xs.drop k) (ys.drop k) = -1 from by rw [zak hyk,(List.drop_eq_nil_of_le (by omega):xs.drop k=[])];rfl)
    have hlt:(xs.length:Int)<(ys.length:Int):=by omega
    go_wp2_with fail
    go_ret
    exact ⟨retI (by rw [HG.out,HE.out]),rfl⟩
   ·have HE:=hidB (show lexC (xs.drop k) (ys.drop k)=0 from by rw [(List.drop_eq_nil_of_le (by omega):xs.drop k=[]),(List.drop_eq_nil_of_le (by omega):ys.drop k=[])];rfl)
    have hlt:¬ (xs.length:Int)<(ys.length:Int):=by omega
    go_wp2_with fail
    go_ret
    exact ⟨retI (by rw [HG.out,HE.out]),rfl⟩
theorem znj {xs:List Int}{k:Nat}{x:Int} (hx:xs[k]?=some x):orI (xs.drop k)=if x=0 then orI (xs.drop (k+1)) else x:=by
 rw [zak hx,orI]
set_option maxHeartbeats 800000 in
theorem znU (a:Option Addr) (c:Nat) (xs:List Int) (w:World) {q:Option Nat} (hv:zas q w a xs) (hl:xs.length≤1048576) :
  Calls Tryz.prog 77 #[.slice a xs.length c] w fun e w'=>e=.returned (.int .i64 (orI xs))∧w'=w:=by
 go_enter Tryz.func77,Tryz.ntmps77
 go_wp2
 go_loopw [8] (fun i wr=>∃ (k:Nat),k≤xs.length∧i=.int .i64 k∧orI xs=orI (xs.drop k)∧wr=w) (fun i _=>xs.length - (intOf i).toNat)
 case atStart=>exact ⟨0,by omega,rfl,rfl,rfl⟩
 case round=>
  obtain ⟨k,hk,rfl,hG,rfl⟩:=hrel
  have HG:=hidB hG
  clear hG
  by_cases hkl:k<xs.length
  ·obtain ⟨x,hxk⟩:∃ x,xs[k]?=some x:=⟨xs[k],by simp [hkl]⟩
   obtain ⟨b,o,rfl,hq,d0⟩:=hv.get hxk
   have HL:=hidB (znj hxk)
   by_cases hc:x=0
   ·subst hc
    go_wp2_with fail
    go_roundw
    case rel=>exact ⟨k+1,by omega,by go_num,by rw [HG.out,HL.out,if_pos rfl],by first | trivial | rfl⟩
    case measure=>simp [intOf];omega
   ·have HN:=hidB hc
    go_wp2_with fail
    go_ret
    exact ⟨retI (by rw [HG.out,HL.out,if_neg HN.out]),rfl⟩
  ·have HE:=hidB (show orI (xs.drop k)=0 from by rw [List.drop_eq_nil_of_le (by omega)];rfl)
   go_wp2_with fail
   go_ret
   exact ⟨retI (by rw [HG.out,HE.out]),rfl⟩
end Go.Proofs.YtmmdlgjmplddiaaGreat
namespace Go.Proofs.YtmmdlgjmplddiaaGreat
open Go.RowKit Go.Sort Go.Lib Go.Shelf
attribute [local go_sem ↓] Go.wp_at_zero Go.wp_at_succ
theorem hidC {p:Prop} (h:p):Hid p:=h
def cmpF (x y:Int):Int:=Lib.compareInt y x
theorem zgP (x y:Int):ltOf cmpF x y=decide (y<x):=by
 unfold ltOf cmpF Lib.compareInt
 by_cases h1:y<x
 ·simp [h1]
 ·by_cases h2:x<y <;> simp [h1,h2]
theorem swoF:SWO (ltOf cmpF) where
 irrefl x:=by rw [zgP];simp
 trans x y z h1 h2:=by rw [zgP] at *;simp at *;omega
 ntrans x y z h1 h2:=by rw [zgP] at *;simp at *;omega
theorem ziz (x y:Int) (W:World):Calls Tryz.prog 112 #[.int .i64 x,.int .i64 y] W fun e w'=>e=.returned (.int .i64 (cmpF x y))∧∃ q,w'=W.drewN q:=by
 have hcon:=AnyG.cmp_Compare_int Tryz.cmpI y x W
 change Calls Tryz.prog 113 _ _ _ at hcon
 unfold cmpF
 generalize Lib.compareInt y x=r at hcon ⊢
 go_enter Tryz.func112,Tryz.ntmps112
 go_wp2_with (go_at_call 113;refine hcon.mono ?_;rintro e w' ⟨rfl,rfl⟩)
 go_ret
 exact ⟨rfl,0,rfl⟩
theorem zmv (blk off size:Nat) (w:World):CmpReads Tryz.prog 112 #[] (Value.int .i64) cmpF blk off size w:=
 fun _ _ _ _ x y=>ziz x y _
theorem zfH {xs:List Int}{d:Array Int} (hp:PermIn 0 xs.toArray.size xs.toArray d) (hs:SortedIn (ltOf cmpF) 0 xs.toArray.size d):d.toList=recy xs:=by
 obtain ⟨hz,_,hperm⟩:=hp
 have hz':d.size=xs.length:=by simpa using hz
 have h1:d.extract 0 xs.toArray.size=d:=by rw [← hz];exact Array.extract_size
 have h2:xs.toArray.extract 0 xs.toArray.size=xs.toArray:=Array.extract_size
 rw [h1,h2] at hperm
 refine zmk hperm ?_
 unfold Falls
 rw [List.pairwise_iff_getElem]
 intro i j hi hj hij
 have h:=hs i j (Nat.zero_le _) hij (by simpa [hz'] using hj)
 have hi':i<d.size:=by simpa using hi
 have hj':j<d.size:=by simpa using hj
 rw [zgP,getElem!_pos d i hi',getElem!_pos d j hj'] at h
 simp at h
 simpa using h
theorem zk8 (g cap:Nat) (xs:List Int) (cur:Array Value) (e:TypeId) (w:World) (hb:w.heap[g]?=some (.cells cur e (0,0))) (ht:cur.toList.take xs.length=icells xs) (hl:xs.length≤1048576) :
  Calls Tryz.prog 111 #[.slice (some ⟨g,0,none⟩) xs.length cap,.func (.func 112) #[] #[]] w fun x w'=>
   x=.returned (.tuple #[])∧∃ (n:Nat) (os:Array Obj),w'=grow (putRow (Value.int .i64) (Sort.ahead w n) g 0 (recy xs).toArray) os:=by
 have eg:∀ args w,(callFunc 112 args).run Tryz.prog w=.ok (.enter 112 args) w:=enters_of Tryz.func112 (by kernel_rfl) rfl
 have hH:Holds (Value.int .i64) w g 0 xs.toArray:=holds_of_blockI hb ht
 have hg:g<w.heap.size:=(Array.getElem?_eq_some_iff.1 hb).1
 have hcon:=Any.slices_SortFunc Tryz.sortI (Value.int .i64) (fun _=>rfl) cmpF swoF 112 #[] g 0 cap xs.toArray w eg (zmv g 0 xs.toArray.size w).lays hH hg (by simp;omega)
 change Calls Tryz.prog 111 #[.slice (some ⟨g,0,none⟩) xs.length cap,_] _ _ at hcon
 refine hcon.mono ?_
 rintro x w' ⟨rfl,d,n,os,hp,hs,rfl⟩
 refine ⟨rfl,n,os,?_⟩
 rw [← zfH hp hs]
 rfl
set_option maxHeartbeats 1600000 in
theorem znE (b o c:Nat) (xs:List Int) {q:Option Nat} (w:World) (hv:zas q w (some ⟨b,o,none⟩) xs) (hl:xs.length≤1048576) :
  Calls Tryz.prog 75 #[.slice (some ⟨b,o,none⟩) xs.length c] w fun e w'=>
   (∃ a' c',e=.returned (.slice a' (recA xs).length c')∧w'.ownsRow w.heap.size 3 1 (.slice a' (recA xs).length c') (recA xs).length (icells (recA xs)))∧Below w.heap.size w w':=by
 by_cases h1000:xs.length≤1000
 ·have HA:Hid (recA xs=recy xs):=zjI h1000
  have hcl:=AnyG.slices_Clone_int Tryz.cloneI b o xs.length c xs w (Nat.le_refl _) (by omega) (fun j hj=>by
   have hx:xs[j]?=some (xs.getD j 0):=by simp [List.getD,List.getElem?_eq_getElem hj]
   obtain ⟨b',o',e,_,hc⟩:=hv.get hx
   simp only [Option.some.injEq,Addr.mk.injEq,and_true] at e
   obtain ⟨rfl,rfl⟩:=e
   exact hc)
  change Calls Tryz.prog 74 _ _ _ at hcl
  have HC:=hidC hcl
  have HS:=hidC (fun (g cap:Nat) (cur:Array Value) (e:TypeId) (w:World) h1 h2=>zk8 g cap xs cur e w h1 h2 hl)
  clear hcl
  go_enter Tryz.func75,Tryz.ntmps75
  go_wp2_with fail
  refine HC.out.mono ?_
  rintro e w1 ⟨v1,rfl,ho1,hnn,hb1⟩
  rcases ho1.2 with ⟨hnil,h0⟩ | ⟨g,cap,cur,rfl,hgb,hbk,hkc,hcm,hcs,hct⟩
  ·exact absurd hnil hnn
  ·have hct':cur.toList.take xs.length=icells xs:=by rw [Nat.mul_one] at hct;rw [hct,List.take_of_length_le (Nat.le_refl _)];rfl
   have HS1:=hidC (HS.out g cap cur _ w1 hbk hct')
   have HO:=hidC (fun (n:Nat) (os:Array Obj)=>ownsRow_sortedI (n:=n) (os:=os) (ss:=xs) (ts:=recy xs) (ze3 xs) hgb hbk hkc hcm hcs)
   have hsz:=hb1.size
   clear hbk hct hct' ho1 HS hcs
   go_wp2_with fail
   refine HS1.out.mono ?_
   rintro e w2 ⟨rfl,n,os,rfl⟩
   go_wp2_with fail
   go_ret
   have hrl:(recA xs).length=xs.length:=by rw [HA.out,ze3]
   refine ⟨⟨some ⟨g,0,none⟩,cap,by rw [hrl];rfl,?_⟩,?_⟩
   ·rw [hrl,HA.out]
    exact HO.out n os
   ·exact hb1.grown (grownBy_sortedI _) hsz (fun k hk=>by injection hk with hk;omega)
 ·have HA:Hid (recA xs=[]):=zmw h1000
  go_enter Tryz.func75,Tryz.ntmps75
  go_wp2
  go_ret
  refine ⟨⟨none,0,by rw [HA.out];rfl,?_⟩,Below.refl _ _⟩
  rw [HA.out]
  exact World.ownsRow_nil _ _ _ _
end Go.Proofs.YtmmdlgjmplddiaaGreat
namespace Go.Proofs.YtmmdlgjmplddiaaGreat
open Go.RowKit
structure CmpI {α:Type} (c:α→α→Int):Prop where
 swap:∀ a b,c b a = - c a b
 le:∀ a b d,c a b≤0→c b d≤0→c a d≤0
 lt:∀ a b d,c a b≤0→c b d≤0→(c a b<0∨c b d<0)→c a d<0
theorem CmpI.zero {α:Type}{c:α→α→Int} (h:CmpI c) {a b d:α} (h1:c a b=0) (h2:c b d=0):c a d=0:=by
 have l1:=h.le a b d (by omega) (by omega)
 have l2:=h.le d b a (by rw [h.swap b d];omega) (by rw [h.swap a b];omega)
 rw [h.swap a d] at l2
 omega
theorem CmpI.map {α β:Type}{c:α→α→Int} (h:CmpI c) (g:β→α):CmpI (fun a b=>c (g a) (g b)):=⟨fun _ _=>h.swap _ _,fun _ _ _=>h.le _ _ _,fun _ _ _=>h.lt _ _ _⟩
theorem CmpI.flip {α:Type}{c:α→α→Int} (h:CmpI c):CmpI (fun a b=>c b a):=by
 refine ⟨fun a b=>h.swap _ _,fun a b d h1 h2=>h.le d b a h2 h1,fun a b d h1 h2 h3=>h.lt d b a h2 h1 (h3.symm)⟩
theorem CmpI.or {α:Type}{c e:α→α→Int} (h:CmpI c) (k:CmpI e):CmpI (fun a b=>if c a b=0 then e a b else c a b):=by
 have key:∀ a b d,(if c a b=0 then e a b else c a b)≤0→(if c b d=0 then e b d else c b d)≤0→(c a d<0∧(c a b<0∨c b d<0))∨(c a d=0∧c a b=0∧c b d=0∧e a b≤0∧e b d≤0):=by
  intro a b d h1 h2
  by_cases z1:c a b=0
  ·rw [if_pos z1] at h1
   by_cases z2:c b d=0
   ·rw [if_pos z2] at h2
    exact .inr ⟨h.zero z1 z2,z1,z2,h1,h2⟩
   ·rw [if_neg z2] at h2
    exact .inl ⟨h.lt a b d (by omega) h2 (.inr (by omega)),.inr (by omega)⟩
  ·rw [if_neg z1] at h1
   by_cases z2:c b d=0
   ·exact .inl ⟨h.lt a b d h1 (by omega) (.inl (by omega)),.inl (by omega)⟩
   ·rw [if_neg z2] at h2
    exact .inl ⟨h.lt a b d h1 h2 (.inl (by omega)),.inl (by omega)⟩
 refine ⟨fun a b=>?_,fun a b d h1 h2=>?_,fun a b d h1 h2 h3=>?_⟩
 ·have e1:=h.swap a b
  have e2:=k.swap a b
  by_cases z:c a b=0
  ·rw [if_pos z,if_pos (by omega)]
   exact e2
  ·rw [if_neg z,if_neg (by omega)]
   exact e1
 ·rcases key a b d h1 h2 with ⟨l,_⟩ | ⟨z,z1,z2,l1,l2⟩
  ·rw [if_neg (by omega)]
   omega
  ·rw [if_pos z]
   exact k.le a b d l1 l2
 ·rcases key a b d h1 h2 with ⟨l,_⟩ | ⟨z,z1,z2,l1,l2⟩
  ·rw [if_neg (by omega)]
   exact l
  ·rw [if_pos z]
   rw [if_pos z1,if_pos z2] at h3
   exact k.lt a b d l1 l2 h3
theorem znO:CmpI Lib.compareInt:=by
 refine ⟨fun a b=>?_,fun a b d h1 h2=>?_,fun a b d h1 h2 h3=>?_⟩
 ·rcases zaY a b with ⟨p,q⟩ | ⟨p,q⟩ | ⟨p,q⟩ <;> rcases zaY b a with ⟨p',q'⟩ | ⟨p',q'⟩ | ⟨p',q'⟩ <;> omega
 ·rcases zaY a b with ⟨p,q⟩ | ⟨p,q⟩ | ⟨p,q⟩ <;> rcases zaY b d with ⟨p',q'⟩ | ⟨p',q'⟩ | ⟨p',q'⟩ <;> rcases zaY a d with ⟨p2,q2⟩ | ⟨p2,q2⟩ | ⟨p2,q2⟩ <;> omega
 ·rcases zaY a b with ⟨p,q⟩ | ⟨p,q⟩ | ⟨p,q⟩ <;> rcases zaY b d with ⟨p',q'⟩ | ⟨p',q'⟩ | ⟨p',q'⟩ <;> rcases zaY a d with ⟨p2,q2⟩ | ⟨p2,q2⟩ | ⟨p2,q2⟩ <;> omega
theorem zi7:∀ (a b d:List Int),lexC a b≤0→lexC b d≤0→lexC a d≤0∧((lexC a b<0∨lexC b d<0)→lexC a d<0)
 | [],[],[],_,_=>by simp [lexC]
 | [],[],_ :: _,_,_=>by simp [lexC]
 | [],_ :: _,[],_,h=>by simp [lexC] at h
 | [],_ :: _,_ :: _,_,_=>by simp [lexC]
 | _ :: _,[],_,h,_=>by simp [lexC] at h
 | _ :: _,_ :: _,[],_,h=>by simp [lexC] at h
 | x :: a,y :: b,z :: d,h1,h2=>by
  have ih:=zi7 a b d
  simp only [lexC] at h1 h2 ⊢
  rcases zaY x y with ⟨p,q⟩ | ⟨p,q⟩ | ⟨p,q⟩ <;> rcases zaY y z with ⟨p',q'⟩ | ⟨p',q'⟩ | ⟨p',q'⟩ <;> rcases zaY x z with ⟨p2,q2⟩ | ⟨p2,q2⟩ | ⟨p2,q2⟩
  all_goals first | (exfalso;omega) | (rw [q] at h1 ⊢;rw [q'] at h2 ⊢;rw [q2];simp at h1 h2 ⊢;done) | (rw [q] at h1 ⊢;rw [q'] at h2 ⊢;rw [q2];simp at h1 h2 ⊢;exact ih h1 h2)
theorem znX:CmpI lexC:=⟨fun a b=>zfl a b,fun a b d h1 h2=>(zi7 a b d h1 h2).1,fun a b d h1 h2 h3=>(zi7 a b d h1 h2).2 h3⟩
theorem zmz:∀ (a b:List Int),lexC a b=0→a=b
 | [],[],_=>rfl
 | [],_ :: _,h=>by simp [lexC] at h
 | _ :: _,[],h=>by simp [lexC] at h
 | x :: a,y :: b,h=>by
  simp only [lexC] at h
  rcases zaY x y with ⟨p,q⟩ | ⟨p,q⟩ | ⟨p,q⟩
  ·rw [q] at h
   simp at h
  ·rw [q] at h
   simp at h
  ·rw [q,if_pos rfl] at h
   rw [p,zmz a b h]
theorem zmV (rs:List Ru):CmpI (zfq rs):=by
 have h:=((znO.map (zaZ rs)).flip).or (((znX.map (fun x:In=>recA x.tags)).flip).or ((znO.map In.rule).or (znX.map In.tags)))
 have e:(zfq rs)=(fun a b:In=>if Lib.compareInt (zaZ rs b) (zaZ rs a)=0 then (if lexC (recA b.tags) (recA a.tags)=0 then (if Lib.compareInt a.rule b.rule=0 then lexC a.tags b.tags else Lib.compareInt a.rule b.rule) else lexC (recA b.tags) (recA a.tags)) else Lib.compareInt (zaZ rs b) (zaZ rs a)):=by
  funext a b
  unfold zfq
  have e0:∀ x:Int,orI [x]=x:=fun x=>by simp only [orI];split <;> omega
  have e1:∀ x y:Int,orI [x,y]=if x=0 then y else x:=fun x y=>by show (if x=0 then orI [y] else x)=_;rw [e0]
  rw [e1]
  show (if _=0 then (if _=0 then orI [_] else _) else _)=_
  rw [e0]
 rw [e]
 exact h
theorem zch (rs:List Ru):Strict (befI rs):=by
 have h:=zmV rs
 refine ⟨fun a b h1=>?_,fun a b d h1 h2=>?_,fun a b h1 h2=>?_⟩
 ·unfold befI at *
  have e:=h.swap a b
  simp at h1 ⊢
  omega
 ·unfold befI at *
  simp at h1 h2 ⊢
  exact h.lt a b d (by omega) (by omega) (.inl h1)
 ·have e:=h.swap a b
  unfold befI at h1 h2
  simp at h1 h2
  have z:zfq rs a b=0:=by omega
  unfold zfq at z
  have e0:∀ x y:Int,orI [x,y]=0→x=0∧y=0:=fun x y hz=>by
   simp only [orI] at hz
   split at hz
   ·rename_i hx
    split at hz
    ·rename_i hy
     exact ⟨hx,hy⟩
    ·exact absurd hz (by assumption)
   ·exact absurd hz (by assumption)
  have z3:lexC (recA b.tags) (recA a.tags)=0∧orI [Lib.compareInt a.rule b.rule,lexC a.tags b.tags]=0:=by
   have z':(if Lib.compareInt (zaZ rs b) (zaZ rs a)=0 then orI [lexC (recA b.tags) (recA a.tags),orI [Lib.compareInt a.rule b.rule,lexC a.tags b.tags]] else Lib.compareInt (zaZ rs b) (zaZ rs a))=0:=z
   split at z'
   ·exact e0 _ _ z'
   ·exact absurd z' (by assumption)
  obtain ⟨z4,z5⟩:=e0 _ _ z3.2
  have e1:a.rule=b.rule:=by rcases zaY a.rule b.rule with ⟨p,q⟩ | ⟨p,q⟩ | ⟨p,q⟩ <;> omega
  have e2:=zmz _ _ z5
  cases a
  cases b
  simp_all
end Go.Proofs.YtmmdlgjmplddiaaGreat
namespace Go.Proofs.YtmmdlgjmplddiaaGreat
open Go.RowKit
attribute [local go_sem ↓] Go.wp_at_zero Go.wp_at_succ
theorem hidQ {p:Prop} (h:p):Hid p:=h
theorem zbM:(Tryz.prog.info? 3).map (fun i=>(i.zero,i.size,i.bytes))=some (some (.int .i64 0),1,8):=by kernel_rfl
theorem zc6 (xs:List Int):(icells xs).length=xs.length:=by simp [icells]
theorem zbj (xs ys:List Int):icells (xs ++ ys)=icells xs ++ icells ys:=by simp [icells]
theorem zbp (xs:List Int):∀ u∈icells xs,u.oneCell'=true:=by
 intro u hu
 obtain ⟨x,_,rfl⟩:=List.mem_map.1 hu
 rfl
theorem zhA {xs:List Int}{j:Nat}{u:Value} (h:(icells xs)[j]?=some u):∃ x,xs[j]?=some x∧u=.int .i64 x:=by
 unfold icells at h
 rw [List.getElem?_map] at h
 cases hx:xs[j]? with
 | none=>rw [hx] at h;cases h
 | some x=>rw [hx] at h;exact ⟨x,rfl,by simpa using h.symm⟩
theorem zdN {w:World}{base n:Nat}{a:Option Addr}{c:Nat}{ys:List Int} (h:w.ownsRow base 3 1 (.slice a n c) n (icells ys)) {g k:Nat} (hg:a=some ⟨g,0,none⟩) {zs:List Int} (hz:∀ (j:Nat) (x:Int),zs[j]?=some x→ys[k+j]?=some x) :
  ∀ ad,some (⟨g,k,none⟩:Addr)=some ad→∀ (j:Nat) u,(icells zs)[j]?=some u→w.cell? (ad.add j)=some u:=by
 intro ad e j u hu
 injection e with e
 subst e
 obtain ⟨x,hx,rfl⟩:=zhA hu
 have hy:=hz j x hx
 have hy':(icells ys)[k+j]?=some (.int .i64 x):=by unfold icells;rw [List.getElem?_map,hy];rfl
 obtain ⟨g',he,_,hc,_⟩:=zam h hy'
 rw [hg] at he
 injection he with he
 injection he with he
 subst he
 rw [Addr.add_lit]
 exact hc
theorem ziT {ys:List Int}{k j:Nat}{x:Int} (h:(ys.take k)[j]?=some x):ys[0+j]?=some x:=by
 rw [List.getElem?_take] at h
 rw [Nat.zero_add]
 split at h
 ·exact h
 ·cases h
theorem zlv {ys:List Int}{k j:Nat}{x:Int} (h:(ys.drop k)[j]?=some x):ys[k+j]?=some x:=by
 rwa [List.getElem?_drop] at h
theorem zeY (w:World) (t:Int) (ty:TypeId) (g:Nat) (hg:g=w.heap.size):∀ ad,some (⟨g,0,none⟩:Addr)=some ad→∀ (j:Nat) u,(icells [t])[j]?=some u→(w.alloc (.cells #[.int .i64 t] ty)).cell? (ad.add j)=some u:=by
 intro ad e j u hu
 injection e with e
 subst e hg
 obtain ⟨x,hx,rfl⟩:=zhA hu
 cases j with
 | zero=>simp at hx;subst hx;simp [Addr.add_lit]
 | succ j=>simp at hx
theorem keep2 {wr w1 w2:World}{base n n1 n2 c c1:Nat}{ty:TypeId}{a a1:Option Addr}{o:Obj}{xs:List Value} (h:wr.ownsRow base ty 1 (.slice a n c) n xs) (hg1:wr.grownBy w1 (Value.slice none 0 0).ownBlock)
  (hl1:(Value.slice a1 n1 c1).ownBlock=(Value.slice none 0 0).ownBlock∨(Value.slice a1 n1 c1).ownBlock=some wr.heap.size) (hg2:(w1.alloc o).grownBy w2 (Value.slice a1 n2 c1).ownBlock):w2.ownsRow base ty 1 (.slice a n c) n xs:=by
 refine zae h fun g hg=>?_
 have hlt:=(h.lt g hg).2
 have h1:w1.heap[g]?=wr.heap[g]?:=hg1.block g hlt (by simp [Value.ownBlock])
 have hs1:=hg1.size
 have h2:(w1.alloc o).heap[g]?=w1.heap[g]?:=Below.heap_alloc w1 o g (by omega)
 refine (hg2.block g (by simp;omega) ?_).trans (h2.trans h1)
 have hn:(Value.slice a1 n2 c1).ownBlock=(Value.slice a1 n1 c1).ownBlock:=by cases a1 <;> rfl
 rcases hl1 with e | e <;> rw [hn,e]
 ·simp [Value.ownBlock]
 ·intro e'
  injection e' with e'
  omega
set_option maxHeartbeats 3200000 in
theorem zju (a:Option Addr) (c:Nat) (xs:List Int) {q:Option Nat} (w:World) (hv:zas q w a xs) (hl:xs.length≤1048576) :
  Calls Tryz.prog 83 #[.slice a xs.length c] w fun e w'=>
   (∃ a' c',e=.returned (.slice a' (recA xs).length c')∧w'.ownsRow w.heap.size 3 1 (.slice a' (recA xs).length c') (recA xs).length (icells (recA xs)))∧Below w.heap.size w w':=by
 by_cases h1000:xs.length≤1000
 ·have HA:Hid (recA xs=recy xs):=hidQ (zjI h1000)
  go_enter Tryz.func83,Tryz.ntmps83
  go_wp2
  go_loopw [3,13] (fun v i wr=>∃ (k:Nat) (a':Option Addr) (c':Nat) (ys:List Int),k≤xs.length∧i=.int .i64 k∧v=.slice a' k c'∧ys.length=k∧ys.Perm (xs.take k)∧Falls ys∧wr.ownsRow w.heap.size 3 1 (.slice a' k c') k (icells ys)∧Below w.heap.size w wr) (fun _ i _=>xs.length - (intOf i).toNat)
  case atStart=>exact ⟨0,none,0,[],by omega,rfl,rfl,rfl,by simp,List.Pairwise.nil,World.ownsRow_nil _ _ _ _,Below.refl _ _⟩
  case round=>
   obtain ⟨k,a',c',ys,hk,rfl,rfl,hyl,hp,hf,ho,hb⟩:=hrel
   have HP:=hidQ hp
   have HF:=hidQ hf
   by_cases hkl:k<xs.length
   ·obtain ⟨t,htk⟩:∃ t,xs[k]?=some t:=⟨xs[k],by simp [hkl]⟩
    obtain ⟨b,o,rfl,hq,d0⟩:=(hv.below hb).get htk
    have hsz:=hb.size
    have HT:Hid (xs.take (k+1)=xs.take k ++ [t]):=hidQ (by rw [List.take_add_one,htk];rfl)
    rcases ho.2 with ⟨he,hk0⟩ | ⟨g,cap,cur,he,hgb,hbk,hkc,hcm,_,_⟩
    ·simp only [Value.slice.injEq] at he
     obtain ⟨rfl,rfl,rfl⟩:=he
     have hy0:ys=[]:=List.eq_nil_of_length_eq_zero hyl
     subst hy0
     clear hp hf ho
     rw [Nat.add_zero] at d0
     go_wp2
     go_loopw [6] (fun i w2=>i=.int .i64 0∧w2=wr) (fun i _=>(intOf i).toNat)
     case atStart=>exact ⟨rfl,rfl⟩
     obtain ⟨rfl,rfl⟩:=hrel
     go_wp2_with (first | (at_builtin;refine zad (by rfl) (.tmp 32) (.tmp 35) 39 (by rfl) w.heap.size 3 _ 1 8 Tryz.underlying39 zbM (by rfl) (by omega) _ 0 _ (by rfl) (World.ownsRow_nil _ _ _ _) none 0 0 (by rfl) [] (by rfl) (fun _=>rfl) (fun _ e=>by cases e) (by simp) (by unfold maxLen;omega) (by omega) hsz ?_;intro a1 c1 w1 ho1 hg1 hl1;have HO1:=hidQ (show w1.ownsRow w.heap.size 3 1 (.slice a1 0 c1) 0 (icells []) from by simpa [icells] using ho1.out);have hz1:w.heap.size≤w1.heap.size:=Nat.le_trans hsz hg1.out.size) | (at_builtin;refine zad (by rfl) (.tmp 37) (.tmp 39) 39 (by rfl) w.heap.size 3 _ 1 8 Tryz.underlying39 zbM (by rfl) (by omega) _ 0 _ (by rfl) (HO1.out.alloc _) (some ⟨w1.heap.size,0,none⟩) 1 1 (by rfl) (icells [t]) (by rfl) (fun e=>by cases e) (zeY _ t _ _ rfl) (zbp _) (by unfold maxLen;omega) (by omega) (by simp;omega) ?_;intro a2 c2 w2 ho2 hg2 hl2;have HO2:=hidQ (show w2.ownsRow w.heap.size 3 1 (.slice a2 (0+1) c2) (0+1) (icells (([]:List Int) ++ [t])) from by rw [zbj];exact ho2.out);have hz2:w.heap.size≤w2.heap.size:=by have:=hg2.out.size;simp at this;omega) | (at_builtin;refine zad (by rfl) (.tmp 41) (.tmp 44) 39 (by rfl) w.heap.size 3 _ 1 8 Tryz.underlying39 zbM (by rfl) (by omega) _ (0+1) _ (by rfl) HO2.out none 0 0 (by rfl) (icells []) (by simp [icells]) (fun _=>rfl) (fun _ e=>by cases e) (zbp _) (by unfold maxLen;omega) (by omega) hz2 ?_;intro a3 c3 w3 ho3 hg3 hl3) | fail)
     have hB1:Below w.heap.size w w1:=hb.grown hg1.out hsz (fun j hj=>by simp [Value.ownBlock] at hj)
     have hB2:Below w.heap.size w w2:=(hB1.alloc hz1 _).grown hg2.out (by simp;omega) (fun j hj=>(HO1.out.lt j hj).1)
     have hB3:Below w.heap.size w w3:=hB2.grown hg3.out hz2 (fun j hj=>(HO2.out.lt j hj).1)
     have HO3:=hidQ (show w3.ownsRow w.heap.size 3 1 (.slice a3 (0+1) c3) (0+1) (icells (([]:List Int) ++ [t] ++ ([]:List Int))) from by have h:=ho3.out;rw [show 0+1+0=0+1 by omega] at h;rw [zbj (([]:List Int) ++ [t])];exact h)
     have HE:=hidQ (show 0+1+0=0+1 by omega)
     go_roundw
     case rel=>exact ⟨0+1,a3,c3,([]:List Int) ++ [t] ++ ([]:List Int),by omega,by go_num,by rw [HE.out],rfl,by rw [HT.out];exact zeZ [] 0 t HP.out,zd9 HF.out (k:=0) (by simp) (by simp) (.inl rfl),HO3.out,hB3⟩
     case measure=>simp [intOf];omega
    ·simp only [Value.slice.injEq] at he
     obtain ⟨rfl,_,rfl⟩:=he
     have HO:=hidQ ho
     unfold maxLen at hcm
     clear hp hf ho
     go_wp2
     go_loopw [6] (fun i w2=>∃ (m:Nat),m≤k∧i=.int .i64 m∧(∀ y∈ys.drop m,y<t)∧w2=wr) (fun i _=>(intOf i).toNat)
     case atStart=>exact ⟨k,by omega,rfl,by rw [List.drop_eq_nil_of_le (by omega)];simp,rfl⟩
     case round=>
      obtain ⟨m,hm,rfl,hd,rfl⟩:=hrel
      have HD:=hidQ hd
      clear hd
      rcases Nat.eq_zero_or_pos m with hm0 | hmp
      ·have HX:Hid ((0:Nat)=0∨∃ x,ys[0 - 1]?=some x∧t≤x):=hidQ (.inl rfl)
       subst hm0
       go_wp2_with (first | (at_builtin;refine zad (by rfl) (.tmp 32) (.tmp 35) 39 (by rfl) w.heap.size 3 _ 1 8 Tryz.underlying39 zbM (by rfl) (by omega) _ 0 _ (by rfl) (World.ownsRow_nil _ _ _ _) (some ⟨g,0,none⟩) 0 c' (by rfl) (icells (ys.take 0)) (by rw [zc6,List.length_take];omega) (fun e=>by cases e) (zdN HO.out rfl (fun _ _=>ziT)) (zbp _) (by unfold maxLen;omega) (by omega) hsz ?_;intro a1 c1 w1 ho1 hg1 hl1;have HO1:=hidQ (show w1.ownsRow w.heap.size 3 1 (.slice a1 0 c1) 0 (icells (ys.take 0)) from by simpa [icells] using ho1.out);have hz1:w.heap.size≤w1.heap.size:=Nat.le_trans hsz hg1.out.size) | (at_builtin;refine zad (by rfl) (.tmp 37) (.tmp 39) 39 (by rfl) w.heap.size 3 _ 1 8 Tryz.underlying39 zbM (by rfl) (by omega) _ 0 _ (by rfl) (HO1.out.alloc _) (some ⟨w1.heap.size,0,none⟩) 1 1 (by rfl) (icells [t]) (by rfl) (fun e=>by cases e) (zeY _ t _ _ rfl) (zbp _) (by unfold maxLen;omega) (by omega) (by simp;omega) ?_;intro a2 c2 w2 ho2 hg2 hl2;have HO2:=hidQ (show w2.ownsRow w.heap.size 3 1 (.slice a2 (0+1) c2) (0+1) (icells (ys.take 0 ++ [t])) from by rw [zbj];exact ho2.out);have hz2:w.heap.size≤w2.heap.size:=by have:=hg2.out.size;simp at this;omega) | (at_builtin;refine zad (by rfl) (.tmp 41) (.tmp 44) 39 (by rfl) w.heap.size 3 _ 1 8 Tryz.underlying39 zbM (by rfl) (by omega) _ (0+1) _ (by rfl) HO2.out (some ⟨g,0,none⟩) k c' (by rfl) (icells (ys.drop 0)) (by rw [zc6,List.length_drop];omega) (fun e=>by cases e) (zdN (keep2 HO.out hg1.out hl1.out hg2.out) rfl (fun _ _=>zlv)) (zbp _) (by unfold maxLen;omega) (by omega) hz2 ?_;intro a3 c3 w3 ho3 hg3 hl3) | fail)
       have hB1:Below w.heap.size w w1:=hb.grown hg1.out hsz (fun j hj=>by simp [Value.ownBlock] at hj)
       have hB2:Below w.heap.size w w2:=(hB1.alloc hz1 _).grown hg2.out (by simp;omega) (fun j hj=>(HO1.out.lt j hj).1)
       have hB3:Below w.heap.size w w3:=hB2.grown hg3.out hz2 (fun j hj=>(HO2.out.lt j hj).1)
       have HO3:=hidQ (show w3.ownsRow w.heap.size 3 1 (.slice a3 (k+1) c3) (k+1) (icells (ys.take 0 ++ [t] ++ ys.drop 0)) from by have h:=ho3.out;rw [show 0+1+k=k+1 by omega] at h;rw [zbj (ys.take 0 ++ [t])];exact h)
       have HE:=hidQ (show 0+1+k=k+1 by omega)
       go_roundw
       case rel=>exact ⟨k+1,a3,c3,ys.take 0 ++ [t] ++ ys.drop 0,by omega,by go_num,by rw [HE.out],by simp [hyl],by rw [HT.out];exact zeZ ys 0 t HP.out,zd9 HF.out (k:=0) (by omega) HD.out HX.out,HO3.out,hB3⟩
       case measure=>simp [intOf];omega
      ·obtain ⟨x,hx⟩:∃ x,ys[m - 1]?=some x:=⟨ys[m - 1]'(by omega),List.getElem?_eq_getElem (by omega)⟩
       have hx':(icells ys)[m - 1]?=some (.int .i64 x):=by unfold icells;rw [List.getElem?_map,hx];rfl
       obtain ⟨g',hge,_,hcx,_⟩:=zam HO.out hx'
       simp only [Option.some.injEq,Addr.mk.injEq,and_true] at hge
       subst hge
       have hmi:(0:Int)<(m:Int):=by omega
       have hm1:((m:Int) - 1)=((m - 1:Nat):Int):=by omega
       by_cases hxt:x<t
       ·have HDn:=hidQ (show ∀ y∈ys.drop (m - 1),y<t from by
         intro y hy
         rw [List.drop_eq_getElem_cons (by omega:m - 1<ys.length)] at hy
         rcases List.mem_cons.1 hy with e | hy
         ·rw [List.getElem?_eq_getElem (by omega)] at hx
          injection hx with hx
          omega
         ·exact HD.out y (by rwa [show m - 1+1=m by omega] at hy))
        go_wp2_with fail
        go_roundw
        case rel=>exact ⟨m - 1,by omega,rfl,HDn.out,by first | trivial | rfl⟩
        case measure=>simp [intOf];omega
       ·have HX:Hid (m=0∨∃ x,ys[m - 1]?=some x∧t≤x):=hidQ (.inr ⟨x,hx,by omega⟩)
        by_cases hcm':c'=m
        ·have hkm:k=m:=by omega
         subst hcm' hkm
         go_wp2_with (first | (at_builtin;refine zad (by rfl) (.tmp 32) (.tmp 35) 39 (by rfl) w.heap.size 3 _ 1 8 Tryz.underlying39 zbM (by rfl) (by omega) _ 0 _ (by rfl) (World.ownsRow_nil _ _ _ _) (some ⟨g,0,none⟩) k k (by rfl) (icells (ys.take k)) (by rw [zc6,List.length_take];omega) (fun e=>by cases e) (zdN HO.out rfl (fun _ _=>ziT)) (zbp _) (by unfold maxLen;omega) (by omega) hsz ?_;intro a1 c1 w1 ho1 hg1 hl1;have HO1:=hidQ (show w1.ownsRow w.heap.size 3 1 (.slice a1 k c1) k (icells (ys.take k)) from by simpa [icells] using ho1.out);have hz1:w.heap.size≤w1.heap.size:=Nat.le_trans hsz hg1.out.size) | (at_builtin;refine zad (by rfl) (.tmp 37) (.tmp 39) 39 (by rfl) w.heap.size 3 _ 1 8 Tryz.underlying39 zbM (by rfl) (by omega) _ k _ (by rfl) (HO1.out.alloc _) (some ⟨w1.heap.size,0,none⟩) 1 1 (by rfl) (icells [t]) (by rfl) (fun e=>by cases e) (zeY _ t _ _ rfl) (zbp _) (by unfold maxLen;omega) (by omega) (by simp;omega) ?_;intro a2 c2 w2 ho2 hg2 hl2;have HO2:=hidQ (show w2.ownsRow w.heap.size 3 1 (.slice a2 (k+1) c2) (k+1) (icells (ys.take k ++ [t])) from by rw [zbj];exact ho2.out);have hz2:w.heap.size≤w2.heap.size:=by have:=hg2.out.size;simp at this;omega) | (at_builtin;refine zad (by rfl) (.tmp 41) (.tmp 44) 39 (by rfl) w.heap.size 3 _ 1 8 Tryz.underlying39 zbM (by rfl) (by omega) _ (k+1) _ (by rfl) HO2.out (some ⟨g,0,none⟩) 0 0 (by rfl) (icells []) (by simp [icells]) (fun e=>by cases e) (fun _ _ j u h=>by simp [icells] at h) (zbp _) (by unfold maxLen;omega) (by omega) hz2 ?_;intro a3 c3 w3 ho3 hg3 hl3) | fail)
         have hB1:Below w.heap.size w w1:=hb.grown hg1.out hsz (fun j hj=>by simp [Value.ownBlock] at hj)
         have hB2:Below w.heap.size w w2:=(hB1.alloc hz1 _).grown hg2.out (by simp;omega) (fun j hj=>(HO1.out.lt j hj).1)
         have hB3:Below w.heap.size w w3:=hB2.grown hg3.out hz2 (fun j hj=>(HO2.out.lt j hj).1)
         have HO3:=hidQ (show w3.ownsRow w.heap.size 3 1 (.slice a3 (k+1) c3) (k+1) (icells (ys.take k ++ [t] ++ ([]:List Int))) from by have h:=ho3.out;rw [show k+1+0=k+1 by omega] at h;rw [zbj (ys.take k ++ [t])];exact h)
         have HE:=hidQ (show k+1+0=k+1 by omega)
         go_roundw
         case rel=>exact ⟨k+1,a3,c3,ys.take k ++ [t] ++ ([]:List Int),by omega,by go_num,by rw [HE.out],by simp [hyl],by rw [HT.out];exact (by have h:=zeZ ys k t HP.out;rwa [List.drop_eq_nil_of_le (by omega)] at h),(by have h:=zd9 HF.out (k:=k) (by omega) HD.out HX.out;rwa [List.drop_eq_nil_of_le (by omega)] at h),HO3.out,hB3⟩
         case measure=>simp [intOf];omega
        ·go_wp2_with (first | (at_builtin;refine zad (by rfl) (.tmp 32) (.tmp 35) 39 (by rfl) w.heap.size 3 _ 1 8 Tryz.underlying39 zbM (by rfl) (by omega) _ 0 _ (by rfl) (World.ownsRow_nil _ _ _ _) (some ⟨g,0,none⟩) m c' (by rfl) (icells (ys.take m)) (by rw [zc6,List.length_take];omega) (fun e=>by cases e) (zdN HO.out rfl (fun _ _=>ziT)) (zbp _) (by unfold maxLen;omega) (by omega) hsz ?_;intro a1 c1 w1 ho1 hg1 hl1;have HO1:=hidQ (show w1.ownsRow w.heap.size 3 1 (.slice a1 m c1) m (icells (ys.take m)) from by simpa [icells] using ho1.out);have hz1:w.heap.size≤w1.heap.size:=Nat.le_trans hsz hg1.out.size) | (at_builtin;refine zad (by rfl) (.tmp 37) (.tmp 39) 39 (by rfl) w.heap.size 3 _ 1 8 Tryz.underlying39 zbM (by rfl) (by omega) _ m _ (by rfl) (HO1.out.alloc _) (some ⟨w1.heap.size,0,none⟩) 1 1 (by rfl) (icells [t]) (by rfl) (fun e=>by cases e) (zeY _ t _ _ rfl) (zbp _) (by unfold maxLen;omega) (by omega) (by simp;omega) ?_;intro a2 c2 w2 ho2 hg2 hl2;have HO2:=hidQ (show w2.ownsRow w.heap.size 3 1 (.slice a2 (m+1) c2) (m+1) (icells (ys.take m ++ [t])) from by rw [zbj];exact ho2.out);have hz2:w.heap.size≤w2.heap.size:=by have:=hg2.out.size;simp at this;omega) | (at_builtin;refine zad (by rfl) (.tmp 41) (.tmp 44) 39 (by rfl) w.heap.size 3 _ 1 8 Tryz.underlying39 zbM (by rfl) (by omega) _ (m+1) _ (by rfl) HO2.out (some ⟨g,m,none⟩) (k - m) (c' - m) (by rfl) (icells (ys.drop m)) (by rw [zc6,List.length_drop];omega) (fun e=>by cases e) (zdN (keep2 HO.out hg1.out hl1.out hg2.out) rfl (fun _ _=>zlv)) (zbp _) (by unfold maxLen;omega) (by omega) hz2 ?_;intro a3 c3 w3 ho3 hg3 hl3) | fail)
         have hB1:Below w.heap.size w w1:=hb.grown hg1.out hsz (fun j hj=>by simp [Value.ownBlock] at hj)
         have hB2:Below w.heap.size w w2:=(hB1.alloc hz1 _).grown hg2.out (by simp;omega) (fun j hj=>(HO1.out.lt j hj).1)
         have hB3:Below w.heap.size w w3:=hB2.grown hg3.out hz2 (fun j hj=>(HO2.out.lt j hj).1)
         have HO3:=hidQ (show w3.ownsRow w.heap.size 3 1 (.slice a3 (k+1) c3) (k+1) (icells (ys.take m ++ [t] ++ ys.drop m)) from by have h:=ho3.out;rw [show m+1+(k - m)=k+1 by omega] at h;rw [zbj (ys.take m ++ [t])];exact h)
         have HE:=hidQ (show m+1+(k - m)=k+1 by omega)
         go_roundw
         case rel=>exact ⟨k+1,a3,c3,ys.take m ++ [t] ++ ys.drop m,by omega,by go_num,by rw [HE.out],by simp [hyl];omega,by rw [HT.out];exact zeZ ys m t HP.out,zd9 HF.out (k:=m) (by omega) HD.out HX.out,HO3.out,hB3⟩
         case measure=>simp [intOf];omega
   ·go_wp2
    go_ret
    have hkk:k=xs.length:=by omega
    subst hkk
    have hr:ys=recy xs:=zmk (by have:=HP.out;rwa [List.take_of_length_le (Nat.le_refl _)] at this) HF.out
    have hrl:(recA xs).length=xs.length:=by rw [HA.out,ze3]
    refine ⟨⟨a',c',by rw [hrl];rfl,?_⟩,hb⟩
    rw [hrl,HA.out,← hr]
    exact ho
 ·have HA:Hid (recA xs=[]):=hidQ (zmw h1000)
  go_enter Tryz.func83,Tryz.ntmps83
  go_wp2
  go_ret
  refine ⟨⟨none,0,by rw [HA.out];rfl,?_⟩,Below.refl _ _⟩
  rw [HA.out]
  exact World.ownsRow_nil _ _ _ _
end Go.Proofs.YtmmdlgjmplddiaaGreat
