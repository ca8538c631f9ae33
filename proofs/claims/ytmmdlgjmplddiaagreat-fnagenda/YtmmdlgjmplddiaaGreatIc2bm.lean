/-
  OUR OWN TEXT. The program's side of the checker: what an operation covers, whatever its parts.
-/
import Derived.Test.YtmmdlgjmplddiaaGreatKat
import Derived.BigQuiet
namespace Go.Proofs.YtmmdlgjmplddiaaGreat
open Go.RowKit
attribute [local go_sem ↓] Go.wp_at_zero Go.wp_at_succ
set_option maxHeartbeats 1600000 in
theorem zfe (e:Ex) (a:Option Addr) (c:Nat) (S:List Sp) {q:Option Nat} (w:World) (hv:zdx q w a S) (hl:S.length≤60) (k2:e.kind=2) (ho0:0≤e.op) (ho1:e.op<256) (hd:∀ (i:Nat) (s:Sp),S[i]?=some s→s.1≤i∧s.2≤20) :
  Calls Tryz.prog 168 #[.agg #[.int .i64 e.kind,.int .u8 e.op,.string e.var,.int .i64 e.val.kind,.int .i64 e.val.num,.string e.val.sym,.int .i64 e.a,.int .i64 e.b],.slice a S.length c] w fun r w'=>
   (∃ f d:Int,r=.returned (.tuple #[.agg #[.int .i64 f,.int .i64 d],.bool (zaG S e).isSome])∧∀ s,zaG S e=some s→f=(s.1:Int)∧d=(s.2:Int))∧Below w.heap.size w w':=by
 have B2:∀ o o',Below w.heap.size w ((w.alloc o).alloc o'):=fun o o'=>((Below.refl _ _).alloc (Nat.le_refl _) _).alloc (by simp) _
 by_cases v0:e.var.toList=[]
 ·by_cases z0:e.val.kind=0
  ·by_cases z1:e.val.num=0
   ·by_cases z2:e.val.sym.toList=[]
    ·cases har:isAr e.op
     ·have HN:Hid (zaG S e=none):=show zaG S e=none from by simp [zbZ k2,opOk,har]
      go_enter Tryz.func168,Tryz.ntmps168
      go_wp2_with (go_at_call 175;refine (zcg e.op ho0 ho1 _).mono ?_;rintro e' w' ⟨rfl,rfl⟩)
      refine bodyPost_ret (v:=.tuple #[.agg #[.int .i64 0,.int .i64 0],.bool false]) (by simp [results,Tryz.results168,go_sem]) rfl ⟨⟨0,0,by rw [HN.out];rfl,fun s h=>(by rw [HN.out] at h;cases h)⟩,?_⟩
      repeat first | exact B2 _ _ | refine zaM ?_ | refine Below.setCell ?_ (by first | (simp;done) | (simp;omega)) _
     ·have HO:Hid (opOk S e=(decide (e.b=(S.length:Int) - 1) && (decide (0≤e.b) && decide (0≤e.a)))):=show opOk S e=_ from by simp [opOk,har,isE,v0,za1,z0,z1,z2]
      by_cases b0:e.b<0
      ·have HN:Hid (zaG S e=none):=show zaG S e=none from by rw [zbZ k2,HO.out,decide_eq_false (p:=0≤e.b) (by omega)];simp
       have d0:decide (e.b<0)=true:=decide_eq_true b0
       go_enter Tryz.func168,Tryz.ntmps168
       go_wp2_with (go_at_call 175;refine (zcg e.op ho0 ho1 _).mono ?_;rintro e' w' ⟨rfl,rfl⟩)
       go_quiet (fail)
       go_wp2
       refine bodyPost_ret (v:=.tuple #[.agg #[.int .i64 0,.int .i64 0],.bool false]) (by simp [results,Tryz.results168,go_sem]) rfl ⟨⟨0,0,by rw [HN.out];rfl,fun s h=>(by rw [HN.out] at h;cases h)⟩,?_⟩
       repeat first | exact B2 _ _ | refine zaM ?_ | refine Below.setCell ?_ (by first | (simp;done) | (simp;omega)) _
      have d0:decide (e.b<0)=false:=decide_eq_false b0
      cases e1:(e.b != (S.length:Int) - 1)
      case true=>
       have HN:Hid (zaG S e=none):=show zaG S e=none from by rw [zbZ k2,HO.out,decide_eq_false (p:=e.b=(S.length:Int) - 1) (by simp at e1;omega)];simp
       go_enter Tryz.func168,Tryz.ntmps168
       go_wp2_with (go_at_call 175;refine (zcg e.op ho0 ho1 _).mono ?_;rintro e' w' ⟨rfl,rfl⟩)
       go_quiet (fail)
       go_wp2
       refine bodyPost_ret (v:=.tuple #[.agg #[.int .i64 0,.int .i64 0],.bool false]) (by simp [results,Tryz.results168,go_sem]) rfl ⟨⟨0,0,by rw [HN.out];rfl,fun s h=>(by rw [HN.out] at h;cases h)⟩,?_⟩
       repeat first | exact B2 _ _ | refine zaM ?_ | refine Below.setCell ?_ (by first | (simp;done) | (simp;omega)) _
      case false=>
       have HB:Hid (e.b=(S.length:Int) - 1):=show e.b=(S.length:Int) - 1 from by (simp at e1;omega)
       by_cases a0:e.a<0
       ·have HN:Hid (zaG S e=none):=show zaG S e=none from by rw [zbZ k2,HO.out,decide_eq_false (p:=0≤e.a) (by omega)];simp
        have d1:decide (e.a<0)=true:=decide_eq_true a0
        go_enter Tryz.func168,Tryz.ntmps168
        go_wp2_with (go_at_call 175;refine (zcg e.op ho0 ho1 _).mono ?_;rintro e' w' ⟨rfl,rfl⟩)
        go_quiet (fail)
        go_wp2
        refine bodyPost_ret (v:=.tuple #[.agg #[.int .i64 0,.int .i64 0],.bool false]) (by simp [results,Tryz.results168,go_sem]) rfl ⟨⟨0,0,by rw [HN.out];rfl,fun s h=>(by rw [HN.out] at h;cases h)⟩,?_⟩
        repeat first | exact B2 _ _ | refine zaM ?_ | refine Below.setCell ?_ (by first | (simp;done) | (simp;omega)) _
       have d1:decide (e.a<0)=false:=decide_eq_false a0
       have hB0:=HB.out
       obtain ⟨bn,hbn⟩:=Int.eq_ofNat_of_zero_le (show 0≤e.b by omega)
       obtain ⟨an,han⟩:=Int.eq_ofNat_of_zero_le (show 0≤e.a by omega)
       have hbl:bn+1=S.length:=by omega
       clear hB0
       obtain ⟨sb,hsb⟩:∃ s,S[bn]?=some s:=⟨S[bn]'(by omega),by simp⟩
       obtain ⟨hd1,hd2⟩:=hd bn sb hsb
       obtain ⟨b,o,rfl,hbw,c0,c1⟩:=hv.get hsb
       have HS:Hid (zaG S e=zdv S (an:Int) (bn:Int)):=show zaG S e=_ from by
        rw [zbZ k2,HO.out,decide_eq_true HB.out,decide_eq_true (p:=0≤e.b) (by omega),decide_eq_true (p:=0≤e.a) (by omega),han,hbn]
        rfl
       clear HB
       rw [hbn] at d0 e1
       rw [han] at d1
       have z3:(bn:Int)<(S.length:Int):=by omega
       have z4:(0:Int)≤(bn:Int):=by omega
       cases e2:((an:Int) != (sb.1:Int) - 1)
       case true=>
        have HN:Hid (zaG S e=none):=show zaG S e=none from by
         rw [HS.out]
         unfold zdv
         simp only [Int.toNat_natCast,hsb]
         split
         ·rename_i h1 h2
          injection h1 with h1
          subst h1
          rw [decide_eq_false (by simp at e2;omega)]
          simp
         ·rfl
        rw [hbn,han]
        go_enter Tryz.func168,Tryz.ntmps168
        go_wp2_with (go_at_call 175;refine (zcg e.op ho0 ho1 _).mono ?_;rintro e' w' ⟨rfl,rfl⟩)
        go_quiet (fail)
        go_wp2
        refine bodyPost_ret (v:=.tuple #[.agg #[.int .i64 0,.int .i64 0],.bool false]) (by simp [results,Tryz.results168,go_sem]) rfl ⟨⟨0,0,by rw [HN.out];rfl,fun s h=>(by rw [HN.out] at h;cases h)⟩,?_⟩
        repeat first | exact B2 _ _ | refine zaM ?_ | refine Below.setCell ?_ (by first | (simp;done) | (simp;omega)) _
       case false=>
        have ha:an+1=sb.1:=by (simp at e2;omega)
        obtain ⟨sa,hsa⟩:∃ s,S[an]?=some s:=⟨S[an]'(by omega),by simp⟩
        obtain ⟨hd3,hd4⟩:=hd an sa hsa
        obtain ⟨b',o',hbe,hbw',c2,c3⟩:=hv.get hsa
        injection hbe with hbe
        injection hbe with hbe1 hbe2 _
        subst hbe1 hbe2
        have HV:Hid (zaG S e=if 1+max sa.2 sb.2≤20 then some (sa.1,1+max sa.2 sb.2) else none):=show zaG S e=_ from by
         rw [HS.out]
         unfold zdv
         simp only [Int.toNat_natCast,hsb,hsa]
         rw [decide_eq_true (p:=(an:Int)=(sb.1:Int) - 1) (by omega)]
         simp
        refine (zf8 e (some ⟨b,o,none⟩) c S w hv hl k2 ho0 ho1 v0 z0 z1 z2 har an bn sa sb han hbn hsa hsb hbl ha hd2 hd4).mono ?_
        rintro r w' ⟨rfl,hb'⟩
        refine ⟨⟨(sa.1:Int),((1+max sa.2 sb.2:Nat):Int),?_,?_⟩,hb'⟩
        ·rw [HV.out]
         by_cases h20:1+max sa.2 sb.2≤20 <;> simp [h20]
        ·intro s h
         rw [HV.out] at h
         split at h
         ·injection h with h
          rw [← h]
          exact ⟨rfl,rfl⟩
         ·cases h
    ·have HN:Hid (zaG S e=none):=show zaG S e=none from by simp [zbZ k2,opOk,za1,isE,z2]
     go_enter Tryz.func168,Tryz.ntmps168
     go_wp2
     refine bodyPost_ret (v:=.tuple #[.agg #[.int .i64 0,.int .i64 0],.bool false]) (by simp [results,Tryz.results168,go_sem]) rfl ⟨⟨0,0,by rw [HN.out];rfl,fun s h=>(by rw [HN.out] at h;cases h)⟩,?_⟩
     repeat first | exact B2 _ _ | refine zaM ?_ | refine Below.setCell ?_ (by first | (simp;done) | (simp;omega)) _
   ·have HN:Hid (zaG S e=none):=show zaG S e=none from by simp [zbZ k2,opOk,za1,z1]
    go_enter Tryz.func168,Tryz.ntmps168
    go_wp2
    refine bodyPost_ret (v:=.tuple #[.agg #[.int .i64 0,.int .i64 0],.bool false]) (by simp [results,Tryz.results168,go_sem]) rfl ⟨⟨0,0,by rw [HN.out];rfl,fun s h=>(by rw [HN.out] at h;cases h)⟩,?_⟩
    repeat first | exact B2 _ _ | refine zaM ?_ | refine Below.setCell ?_ (by first | (simp;done) | (simp;omega)) _
  ·have HN:Hid (zaG S e=none):=show zaG S e=none from by simp [zbZ k2,opOk,za1,z0]
   go_enter Tryz.func168,Tryz.ntmps168
   go_wp2
   refine bodyPost_ret (v:=.tuple #[.agg #[.int .i64 0,.int .i64 0],.bool false]) (by simp [results,Tryz.results168,go_sem]) rfl ⟨⟨0,0,by rw [HN.out];rfl,fun s h=>(by rw [HN.out] at h;cases h)⟩,?_⟩
   repeat first | exact B2 _ _ | refine zaM ?_ | refine Below.setCell ?_ (by first | (simp;done) | (simp;omega)) _
 ·have HN:Hid (zaG S e=none):=show zaG S e=none from by simp [zbZ k2,opOk,isE,v0]
  go_enter Tryz.func168,Tryz.ntmps168
  go_wp2
  refine bodyPost_ret (v:=.tuple #[.agg #[.int .i64 0,.int .i64 0],.bool false]) (by simp [results,Tryz.results168,go_sem]) rfl ⟨⟨0,0,by rw [HN.out];rfl,fun s h=>(by rw [HN.out] at h;cases h)⟩,?_⟩
  repeat first | exact B2 _ _ | refine zaM ?_ | refine Below.setCell ?_ (by first | (simp;done) | (simp;omega)) _
end Go.Proofs.YtmmdlgjmplddiaaGreat
