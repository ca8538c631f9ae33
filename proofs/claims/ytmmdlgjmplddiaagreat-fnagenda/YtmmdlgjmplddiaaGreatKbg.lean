/-
  OUR OWN TEXT. Cpy, Pg4, Sc4, Yc1, one behind the other.
-/
import Derived.Test.YtmmdlgjmplddiaaGreatKay
import Derived.Deep.RegionHeld3
import Derived.Deep.DrawnRows
import Derived.Maps.RangeWalk
import Derived.Test.YtmmdlgjmplddiaaGreatKau
import Derived.Test.YtmmdlgjmplddiaaGreatSym
import Derived.Test.YtmmdlgjmplddiaaGreatKax
namespace Go.Proofs.YtmmdlgjmplddiaaGreat
open Go.RowKit
attribute [local go_sem ↓] Go.wp_at_zero Go.wp_at_succ
theorem hidden' {p:Prop} (h:p):Hid p:=h
theorem zk4 {w w':World} (h:w.grownBy w' none):Below w.heap.size w w':=
 (Below.refl _ _).grown h (Nat.le_refl _) (fun k hk=>by cases hk)
def zpw (w:World) (base:Nat) (x:Value) (vs:List V):Prop:=(∃ a c,x=.slice a vs.length c)∧w.ownsRow base 109 3 x vs.length (vs.flatMap V.cells)
set_option maxHeartbeats 800000 in
theorem ze9 (a:Option Addr) (c:Nat) (vs:List V) (w:World) (hv:zaV w a vs) (hl:vs.length≤1048576) :
  Calls Tryz.prog 126 #[.slice a vs.length c] w fun e w'=>
   (∃ a' c',e=.returned (.slice a' vs.length c')∧zpw w' w.heap.size (.slice a' vs.length c') vs)∧Below w.heap.size w w':=by
 go_enter Tryz.func126,Tryz.ntmps126
 go_wp2_with (at_builtin;refine zad (by rfl) (.tmp 4) (.tmp 5) 40 (by rfl) w.heap.size 109 _ 3 32 Tryz.underlying40 zpD (by rfl) (by omega) _ 0 [] (by rfl) (World.ownsRow_nil _ _ _ _) a vs.length c (by rfl) (vs.flatMap V.cells) (zjs _) (fun e=>zaV.nil (e ▸ hv)) (fun ad e=>zaV.flat (e ▸ hv)) (zno _) (by unfold maxLen;omega) (by omega) (Nat.le_refl _) ?_;intro a' c' w1 ho hg hl1)
 have ho1:=ho.out
 simp only [Nat.zero_add,List.nil_append] at ho1
 go_ret
 exact ⟨⟨a',c',by simp,⟨a',c',rfl⟩,ho1⟩,zk4 hg.out⟩
theorem zgi (w:World) (L:List Value) (t:TypeId) (ad:Addr) (e:some (⟨w.heap.size,0,none⟩:Addr)=some ad) (j:Nat) (u:Value) (h:L[j]?=some u):(w.alloc (.cells L.toArray t)).cell? (ad.add j)=some u:=by
 cases e
 rw [Addr.add_mid,Nat.zero_add]
 have hb:=heap_alloc_new w (.cells L.toArray t)
 simp only [World.cell?,hb]
 simp [h]
theorem zeh (f:F) (a:Option Addr) (n c:Nat):∀ u∈fcells f (.slice a n c),u.oneCell'=true:=by
 intro u hu
 simp [fcells] at hu
 rcases hu with rfl | rfl | rfl <;> rfl
theorem zhF {w:World}{base B:Nat}{v x:Value}{e e':TypeId}{s s' n n':Nat}{xs ys:List Value}{w':World} (h:w.ownsRow base e s v n xs) (hx:w'.ownsRow B e' s' x n' ys) (hB:w.heap.size≤B):Apart v x:=fun g hg hgx=>by
 have h1:=(h.lt g hg).2
 have h2:=(hx.lt g hgx).1
 omega
set_option maxRecDepth 100000 in
set_option maxHeartbeats 800000 in
theorem zje (a:Option Addr) (c:Nat) (fs:List F) (w:World) (hv:zaH w a fs) (hl:fs.length≤1048576) (hs:∀ f∈fs,f.slots.length≤1048576) :
  Calls Tryz.prog 125 #[.slice a fs.length c] w fun e w'=>
   (∃ a' c' xs,e=.returned (.slice a' fs.length c')∧OFs w' w.heap.size (.slice a' fs.length c') fs.length fs xs)∧Below w.heap.size w w':=by
 go_enter Tryz.func125,Tryz.ntmps125
 go_wp2
 go_loopw [3,8] (fun v i wr=>∃ (k:Nat) (a':Option Addr) (c':Nat) (xs:List Value),k≤fs.length∧i=.int .i64 k∧v=.slice a' k c'∧OFs wr w.heap.size (.slice a' k c') k (fs.take k) xs∧Below w.heap.size w wr) (fun _ i _=>fs.length - (intOf i).toNat)
 case atStart=>exact ⟨0,none,0,[],by omega,rfl,rfl,OFs.nil _ _,Below.refl _ _⟩
 case round=>
  obtain ⟨k,a',c',xs,hk,rfl,rfl,ho,hb⟩:=hrel
  by_cases hkl:k<fs.length
  ·obtain ⟨f,hfk⟩:∃ f,fs[k]?=some f:=⟨fs[k],by simp [hkl]⟩
   obtain ⟨b,o,rfl,c0,c1,s,cs,c2,hsl⟩:=hv.below hb k f hfk
   have hsf:=hs f (List.mem_of_getElem? hfk)
   have B1:∀ o,Below wr.heap.size wr (wr.alloc o):=fun o=>(Below.refl _ _).alloc (Nat.le_refl _) _
   have HO:=hidden' ho
   clear ho
   go_wp2
   go_region_held3 (fun w'=>w'.cell? ⟨wr.heap.size,0,none⟩=some (.int .i64 f.tag)∧w'.cell? ⟨wr.heap.size,1,none⟩=some (.string f.cls)∧w'.cell? ⟨wr.heap.size,2,none⟩=some (.slice s f.slots.length cs)) ((go_split_ands;refine ⟨?_,?_,?_⟩ <;> first | (simp [*,go_sem];done) | exact zaa hb1 (by simp [*,go_sem]) | exact zaa ((Below.refl _ _).alloc (Nat.le_refl _) _) (zaa hb1 (by simp [*,go_sem])) | exact hg2.out.cell (zaa ((Below.refl _ _).alloc (Nat.le_refl _) _) (zaa hb1 (by simp [*,go_sem]))) (fun e=>absurd (HO.out.own.lt _ e.symm).2 (Nat.lt_irrefl _))))
    (first | (go_at_call 126;refine (ze9 s cs f.slots _ (hsl.below ?_) hsf).mono ?_;exact (B1 _).drew;rintro e w1 ⟨⟨a1,c1',rfl,hx1⟩,hb1⟩;have ho1:=hidden' ((HO.out.below (B1 _).drew).below hb1);have HX:=hidden' hx1;clear hx1) | (refine zao (by rfl) (.tmp 12) (.tmp 21) 24 (by rfl) w.heap.size 42 _ 3 48 Tryz.underlying24 zo7 (by rfl) (by omega) _ k _ (by rfl) (ho1.out.own.alloc _) (some ⟨w1.heap.size,0,none⟩) 1 1 (by rfl) (fcells f (.slice a1 f.slots.length c1')) (by rfl) (fun e=>by cases e) (by exact zgi _ _ _) (zeh _ _ _ _) (by unfold maxLen;omega) (by omega) (by have h1:=hb.size;have h2:=hb1.size;simp at h2 ⊢;omega) ?_;intro a2 c2' w2 ho2 hg2 hl2))
   have hX:=HX.out
   have hW1:Below w.heap.size w w1:=hb.trans (((B1 _).drew.trans (hb1.mono (by simp))).mono hb.size)
   have hsz:w.heap.size≤w1.heap.size:=hW1.size
   have hS:=(ho1.out.below ((Below.refl _ _).alloc (Nat.le_refl _) _)).snoc ⟨hX.1,(zan hX.2 (by have:=hb.size;simp;omega)).alloc _⟩ (zhF HO.out.own hX.2 (by simp)) (fun y hy=>by
    obtain ⟨f',_,hf'⟩:=HO.out.each' hy
    exact zhF hf' hX.2 (by simp)) ho2.out hg2.out hl2.out
   go_wp2
   go_roundw
   case rel=>
    rw [← zbW fs k f hfk] at hS
    exact ⟨k+1,a2,c2',_,by omega,by go_num,rfl,hS,((hW1.alloc hsz _).grown hg2.out (by simp;omega) (fun j hj=>(ho1.out.own.lt j hj).1))⟩
   case measure=>simp [intOf];omega
  ·go_wp2
   go_ret
   obtain rfl:k=fs.length:=by omega
   rw [List.take_of_length_le (Nat.le_refl _)] at ho
   exact ⟨⟨a',c',xs,rfl,ho⟩,hb⟩
end Go.Proofs.YtmmdlgjmplddiaaGreat
namespace Go.Proofs.YtmmdlgjmplddiaaGreat
open Go.RowKit
attribute [local go_sem ↓] Go.wp_at_zero Go.wp_at_succ
structure Vr where
 name:ByteArray
 fact:Nat
 slot:Nat
def zbJ (v:Vr):List Value:=[.string v.name,.int .i64 (v.fact:Int),.int .i64 (v.slot:Int)]
def zfG (w:World) (a:Option Addr) (vs:List Vr):Prop:=
 ∀ (i:Nat) (v:Vr),vs[i]?=some v→∃ b o,a=some ⟨b,o,none⟩∧w.cell? ⟨b,o+i * 3,none⟩=some (.string v.name)∧w.cell? ⟨b,o+i * 3+1,none⟩=some (.int .i64 (v.fact:Int))∧w.cell? ⟨b,o+i * 3+2,none⟩=some (.int .i64 (v.slot:Int))
theorem zfG.below {w w':World}{a:Option Addr}{vs:List Vr} (h:zfG w a vs) (hb:Below w.heap.size w w'):zfG w' a vs:=by
 intro i v hi
 obtain ⟨b,o,e,h0,h1,h2⟩:=h i v hi
 exact ⟨b,o,e,zaa hb h0,zaa hb h1,zaa hb h2⟩
def zaT:List Vr→ByteArray→Option Vr
 | [],_=>none
 | v :: r,s=>if v.name=s then some v else zaT r s
theorem zcX (v:Vr) (r:List Vr) (s:ByteArray):zaT (v :: r) s=if v.name=s then some v else zaT r s:=rfl
def whV:Option Vr→Value
 | some v=>.tuple #[.agg #[.int .i64 (v.fact:Int),.int .i64 (v.slot:Int)],.bool true]
 | none=>.tuple #[.agg #[.int .i64 0,.int .i64 0],.bool false]
set_option maxHeartbeats 6400000 in
theorem zik (pb:Nat) (s:ByteArray) (a:Option Addr) (c:Nat) (vs:List Vr) (w:World) (hp:w.cell? ⟨pb,1,none⟩=some (.slice a vs.length c)) (hv:zfG w a vs) (hl:vs.length≤1048576) :
  Calls Tryz.prog 127 #[.pointer (some ⟨pb,0,none⟩),.string s] w fun e w'=>e=.returned (whV (zaT vs s))∧Below w.heap.size w w':=by
 have HV:=hidP hv
 have hlp:=znv hp
 clear hv
 go_enter Tryz.func127,Tryz.ntmps127
 go_upto_region 1 with fail
 refine zaj ?_
 intro w0 hW0 hq0
 have BX:=hidP hq0
 have H0:=hidP hW0
 have hp0:=zaa hW0 hp
 have hl0:w.heap.size<w0.heap.size:=zab hq0
 clear hW0 hq0 hp
 go_wp2_with fail
 clear hp0
 go_loopw [13] (fun iv wr=>∃ (k:Nat),iv=.int .i64 (k:Int)∧k≤vs.length∧zaT vs s=zaT (vs.drop k) s∧wr.heap[w.heap.size]?=some (.cells #[.int .i64 0,.int .i64 0] 180 (0,0))∧Below w.heap.size w wr) (fun iv _=>vs.length - (intOf iv).toNat)
 case atStart=>exact ⟨0,rfl,Nat.zero_le _,rfl,BX.out,H0.out⟩
 case round=>
  obtain ⟨k,rfl,hkl,hG,hbx,hb⟩:=hrel
  have HG:=hidP hG
  have BR:=hidP hbx
  have HBW:=hidP hb
  have hlr:w.heap.size<wr.heap.size:=zab hbx
  clear hG hbx hb BX
  by_cases hk:k<vs.length
  ·obtain ⟨v,hv⟩:∃ v,vs[k]?=some v:=⟨vs[k],by simp [hk]⟩
   obtain ⟨b,o,rfl,j0,j1,j2⟩:=(HV.out.below HBW.out) k v hv
   have HD:=hidP (show zaT vs s=if v.name=s then some v else zaT (vs.drop (k+1)) s by rw [HG.out,zak hv,zcX])
   have z0:(0:Int)≤(k:Int):=by omega
   have z1:(k:Int)<(vs.length:Int):=by omega
   clear hv HG
   go_upto_region 4 with fail
   refine zaj ?_
   intro w2 hW2 hq2
   obtain ⟨d0,d1,d2⟩:=cells3P hq2
   have B2:=hidP ((hW2.block _ hlr).trans BR.out)
   have W2:=hidP (HBW.out.trans (hW2.mono HBW.out.size))
   have hl2:wr.heap.size<w2.heap.size:=zab hq2
   clear hW2 hq2 j0 j1 j2 BR HBW
   cases e1:(v.name.toList==s.toList)
   ·have HN:=hidP (show zaT vs s=zaT (vs.drop (k+1)) s by rw [zaL] at e1;rw [HD.out,if_neg (fun h=>by subst h;simp at e1)])
    clear HD
    go_wp2_with fail
    go_roundw
    case rel=>exact ⟨k+1,by go_num,by omega,HN.out,B2.out,W2.out⟩
    case measure=>(simp [intOf];omega)
   ·have HN:=hidP (show zaT vs s=some v by rw [zaL] at e1;rw [HD.out,if_pos (by simpa using e1)])
    have y0:w2.cell? ⟨w.heap.size,0,none⟩=some (.int .i64 0):=by simp [World.cell?,B2.out]
    have y1:w2.cell? ⟨w.heap.size,1,none⟩=some (.int .i64 0):=by simp [World.cell?,B2.out]
    have x0:w2.frozen? ⟨w.heap.size,0,none⟩=false:=by simp [World.frozen?,B2.out]
    have x1:w2.frozen? ⟨w.heap.size,1,none⟩=false:=by simp [World.frozen?,B2.out]
    clear HD
    go_wp2_with fail
    refine bodyPost_ret (v:=whV (some v)) (by simp [results,Tryz.results127,go_sem,y0,y1,whV]) rfl ⟨by rw [HN.out],?_⟩
    exact (W2.out.setCell (by simp) _).setCell (by simp) _
  ·have hke:k=vs.length:=by omega
   subst hke
   have HN:=hidP (show zaT vs s=none by rw [HG.out,List.drop_eq_nil_of_le (Nat.le_refl _)];rfl)
   have hy:¬ (vs.length:Int)<(vs.length:Int):=by omega
   have y0:wr.cell? ⟨w.heap.size,0,none⟩=some (.int .i64 0):=by simp [World.cell?,BR.out]
   have y1:wr.cell? ⟨w.heap.size,1,none⟩=some (.int .i64 0):=by simp [World.cell?,BR.out]
   have x0:wr.frozen? ⟨w.heap.size,0,none⟩=false:=by simp [World.frozen?,BR.out]
   have x1:wr.frozen? ⟨w.heap.size,1,none⟩=false:=by simp [World.frozen?,BR.out]
   go_wp2_with fail
   refine bodyPost_ret (v:=whV none) (by simp [results,Tryz.results127,go_sem,y0,y1,whV]) rfl ⟨by rw [HN.out],?_⟩
   exact (HBW.out.setCell (by simp) _).setCell (by simp) _
end Go.Proofs.YtmmdlgjmplddiaaGreat
namespace Go.Proofs.YtmmdlgjmplddiaaGreat
open Go.RowKit
attribute [local go_sem ↓] Go.wp_at_zero Go.wp_at_succ
end Go.Proofs.YtmmdlgjmplddiaaGreat
namespace Go.Proofs.YtmmdlgjmplddiaaGreat
open Go.RowKit
attribute [local go_sem ↓] Go.wp_at_zero Go.wp_at_succ
set_option maxHeartbeats 1600000 in
theorem zgc (a:Option Addr) (c:Nat) (es:List Ex) (S:List Sp) (e:Ex) (w:World) {q:Option Nat} (hv:zbw q w a es) (hl:es.length≤60) (hS:Spans es S) (he:es[S.length]?=some e) (hs:e.le maxLen) (ho0:0≤e.op) (ho1:e.op<256) (hy:(zaG S e).isSome=true) :
  Calls Tryz.prog 143 #[.slice a es.length c,.int .i64 (S.length:Int)] w fun e' w'=>e'=.returned (.bool true)∧Below w.heap.size w w':=by
 obtain ⟨hs1,hs2⟩:=hs
 have hkl:S.length<es.length:=(List.getElem?_eq_some_iff.1 he).1
 have B1:∀ o,Below w.heap.size w (w.alloc o):=fun o=>(Below.refl _ _).alloc (Nat.le_refl _) _
 have hv0:=hv
 obtain ⟨b,o,rfl,hq,c0,c1,c2,c3,c4,c5,c6,c7⟩:=hv.get he
 clear hq hv
 by_cases k0:e.kind=0
 ·have e0:(e.kind==0)=true:=by simp [k0]
  cases h1:(e.op==0) <;> cases h2:(e.a==0) <;> cases h3:(e.b==0) <;> cases h4:e.var.toList.isEmpty
  all_goals try (exfalso;simp [zaG,zaP,isE,e0,h1,h2,h3,h4] at hy;done)
  have hg:gVal e.val=true:=by simpa [zaG,zaP,isE,e0,h1,h2,h3,h4] using hy
  have HG:=zhd (zcw e.val)
  rw [hg] at HG
  go_enter Tryz.func143,Tryz.ntmps143
  go_wp2_with (go_at_call 110;refine (HG.out _ hs2).mono ?_;rintro e' w' ⟨rfl,hb'⟩)
  go_ret
  exact ⟨rfl,(B1 _).trans (hb'.mono (by simp))⟩
 by_cases k1:e.kind=1
 ·have e0:(e.kind==0)=false:=by simp [k1]
  have e1:(e.kind==1)=true:=by simp [k1]
  cases h1:(e.op==0) <;> cases h2:(e.a==0) <;> cases h3:(e.b==0) <;> cases h4:gSym e.var.data.toList
  all_goals try (exfalso;simp [zaG,zaP,e0,e1,h1,h2,h3,h4] at hy;done)
  have hg:za1 e.val=true:=by simpa [zaG,zaP,e0,e1,h1,h2,h3,h4] using hy
  have HG:=zhd (zc1 e.val)
  rw [hg] at HG
  go_enter Tryz.func143,Tryz.ntmps143
  go_wp2_with (first | (go_at_call 87;refine (zaQ e.var _ hs1).mono ?_;rintro e' w' ⟨rfl,rfl⟩) | (go_at_call 109;refine (HG.out _).mono ?_;rintro e' w' ⟨rfl,hb'⟩))
  go_ret
  exact ⟨rfl,(B1 _).trans (hb'.mono (by simp))⟩
 have e0:(e.kind==0)=false:=by simpa using k0
 have e1:(e.kind==1)=false:=by simpa using k1
 by_cases k2:e.kind=2
 ·have hSp:(zaG S e).isSome=(if opOk S e then zdv S e.a e.b else none).isSome:=by simp [zaG,k2]
  clear c0 c1 c2 c3 c4 c5 c6 c7
  rw [hSp] at hy
  have hok:opOk S e=true:=by
   cases h:opOk S e
   ·rw [h] at hy;simp at hy
   ·rfl
  rw [hok,if_pos rfl] at hy
  simp only [opOk,isE,Bool.and_eq_true,decide_eq_true_eq] at hok
  obtain ⟨har,hva,hzv,hbi,hb0,ha0⟩:=hok
  obtain ⟨bn,heb⟩:=Int.eq_ofNat_of_zero_le hb0
  have hbn:bn+1=S.length:=by omega
  obtain ⟨sb,hsb⟩:∃ s,S[bn]?=some s:=⟨S[bn]'(by omega),by simp⟩
  obtain ⟨ea,hea⟩:=Int.eq_ofNat_of_zero_le ha0
  have hfl:=hS.first_le bn sb hsb
  unfold zdv at hy
  rw [heb,hea,Int.toNat_natCast,Int.toNat_natCast,hsb] at hy
  cases hsa:S[ea]? with
  | none=>rw [hsa] at hy;simp at hy
  | some sa=>
   rw [hsa] at hy
   have hm:(ea:Int)=(sb.1:Int) - 1∧1+max sa.2 sb.2≤20:=by
    by_cases h:(ea:Int)=(sb.1:Int) - 1∧1+max sa.2 sb.2≤20
    ·exact h
    ·have h':(decide ((ea:Int)=(sb.1:Int) - 1) && decide (1+max sa.2 sb.2≤20))=false:=by
      rw [Bool.eq_false_iff]
      intro h2
      rw [Bool.and_eq_true,decide_eq_true_eq,decide_eq_true_eq] at h2
      exact h h2
     simp only [h'] at hy
     simp at hy
   have hX:=zh2 _ c es S e w hv0 hl he ho0 ho1 k2 har hva hzv hS bn hbn heb sb hsb (by omega) (by rw [hea];simpa using hm.1) ea sa hea hsa
   rw [decide_eq_true hm.2] at hX
   exact hX
 ·exfalso
  have e2:(e.kind==2)=false:=by simpa using k2
  simp [zaG,e0,e1,e2] at hy
end Go.Proofs.YtmmdlgjmplddiaaGreat
