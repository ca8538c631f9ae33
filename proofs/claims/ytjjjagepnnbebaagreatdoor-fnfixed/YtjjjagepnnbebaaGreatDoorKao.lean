/-
  OUR OWN TEXT. Ic2b, Ic4, Ic4b, Ic6, Ic3, Ic3b, Ic7, Ic8, Ic9, Ic9b, Ic10, Ic11, Ic12, Sc6a, one behind the other.
-/
import Derived.Test.YtjjjagepnnbebaaGreatDoorKaj
import Derived.BigQuiet
import Derived.Deep.RegionLaw
import Derived.Test.YtjjjagepnnbebaaGreatDoorKac
import Derived.Test.YtjjjagepnnbebaaGreatDoorKak
import Derived.StringKeys
import Derived.Maps.Own
import Derived.Maps.Views
import Derived.Maps.Keyed
import Derived.Shelf.SlMaps.Clone
import Derived.Deep.RegionHeld3
import Derived.Deep.DrawnRows
import Derived.Test.YtjjjagepnnbebaaGreatDoorSc2m
set_option maxHeartbeats 3200000
set_option maxRecDepth 100000
namespace Go.Proofs.YtjjjagepnnbebaaGreatDoor
open Go.RowKit
attribute [local go_sem ↓] Go.wp_at_zero Go.wp_at_succ
theorem zhf(e:Ex)(a:Option Addr)(c:Nat)(S:List Sp){q:Option Nat}(w:World)(hv:zek q w a S)(hl:S.length<=60)(U:e.kind=2)(I:0<=e.op)(G:e.op<256)(hd:∀ (i:Nat) (s:Sp),S[i]?=some s->s.1<=i/\s.2<=20) :
  Calls Tryz.prog 165 #[.agg #[.int .i64 e.kind,.int .u8 e.op,.string e.var,.int .i64 e.val.kind,.int .i64 e.val.num,.string e.val.sym,.int .i64 e.a,.int .i64 e.b],.slice a S.length c] w fun r w'=>
   (∃ f d:Int,r=.returned (.tuple #[.agg #[.int .i64 f,.int .i64 d],.bool (zaJ S e).isSome])/\∀ s,zaJ S e=some s->f=(s.1:Int)/\d=(s.2:Int))/\Below w.heap.size w w':=by
 have X:∀ o o',Below w.heap.size w ((w.alloc o).alloc o'):=fun o o'=>((Below.refl _ _).alloc (Nat.le_refl _) _).alloc (by simp) _;by_cases v0:e.var.toList=[]
 ·by_cases z0:e.val.kind=0
  ·by_cases z1:e.val.num=0
   ·by_cases z2:e.val.sym.toList=[]
    ·cases af:isAr e.op
     ·have E:Hid (zaJ S e=none):=show zaJ S e=none from by simp[zcB U,opOk,af]
      go_enter Tryz.func165,Tryz.ntmps165;go_wp2_with (go_at_call 174;refine (zbN e.op I G _).mono ?_;rintro e' w' ⟨rfl,rfl⟩);refine bodyPost_ret (v:=.tuple #[.agg #[.int .i64 0,.int .i64 0],.bool false]) (by simp[results,Tryz.results165,go_sem]) rfl ⟨⟨0,0,by rw[E.out];rfl,fun s h=>(by rw[E.out]at h;cases h)⟩,?_⟩
      repeat first | exact X _ _ | refine za4 ?_ | refine Below.setCell ?_ (by first | (simp;done) | (simp;omega)) _
     have HO:Hid (opOk S e=(decide (e.b=(S.length:Int) - 1) && (decide (0<=e.b) && decide (0<=e.a)))):=show opOk S e=_ from by simp[opOk,af,isE,v0,zbm,z0,z1,z2]
     by_cases b0:e.b<0
     ·have E:Hid (zaJ S e=none):=show zaJ S e=none from by rw[zcB U,HO.out,decide_eq_false (p:=0<=e.b) (by omega)];simp
      have d0:decide (e.b<0)=true:=decide_eq_true b0;go_enter Tryz.func165,Tryz.ntmps165;go_wp2_with (go_at_call 174;refine (zbN e.op I G _).mono ?_;rintro e' w' ⟨rfl,rfl⟩)
      go_quiet (fail)
      go_wp2;refine bodyPost_ret (v:=.tuple #[.agg #[.int .i64 0,.int .i64 0],.bool false]) (by simp[results,Tryz.results165,go_sem]) rfl ⟨⟨0,0,by rw[E.out];rfl,fun s h=>(by rw[E.out]at h;cases h)⟩,?_⟩
      repeat first | exact X _ _ | refine za4 ?_ | refine Below.setCell ?_ (by first | (simp;done) | (simp;omega)) _
     have d0:decide (e.b<0)=false:=decide_eq_false b0
     cases e1:(e.b != (S.length:Int) - 1)
     case true=>
      have E:Hid (zaJ S e=none):=show zaJ S e=none from by rw[zcB U,HO.out,decide_eq_false (p:=e.b=(S.length:Int) - 1) (by simp at e1;omega)];simp
      go_enter Tryz.func165,Tryz.ntmps165;go_wp2_with (go_at_call 174;refine (zbN e.op I G _).mono ?_;rintro e' w' ⟨rfl,rfl⟩)
      go_quiet (fail)
      go_wp2;refine bodyPost_ret (v:=.tuple #[.agg #[.int .i64 0,.int .i64 0],.bool false]) (by simp[results,Tryz.results165,go_sem]) rfl ⟨⟨0,0,by rw[E.out];rfl,fun s h=>(by rw[E.out]at h;cases h)⟩,?_⟩
      repeat first | exact X _ _ | refine za4 ?_ | refine Below.setCell ?_ (by first | (simp;done) | (simp;omega)) _
     case false=>
      have HB:Hid (e.b=(S.length:Int) - 1):=show e.b=(S.length:Int) - 1 from by (simp at e1;omega)
      by_cases a0:e.a<0
      ·have E:Hid (zaJ S e=none):=show zaJ S e=none from by rw[zcB U,HO.out,decide_eq_false (p:=0<=e.a) (by omega)];simp
       have d1:decide (e.a<0)=true:=decide_eq_true a0;go_enter Tryz.func165,Tryz.ntmps165;go_wp2_with (go_at_call 174;refine (zbN e.op I G _).mono ?_;rintro e' w' ⟨rfl,rfl⟩)
       go_quiet (fail)
       go_wp2;refine bodyPost_ret (v:=.tuple #[.agg #[.int .i64 0,.int .i64 0],.bool false]) (by simp[results,Tryz.results165,go_sem]) rfl ⟨⟨0,0,by rw[E.out];rfl,fun s h=>(by rw[E.out]at h;cases h)⟩,?_⟩
       repeat first | exact X _ _ | refine za4 ?_ | refine Below.setCell ?_ (by first | (simp;done) | (simp;omega)) _
      have d1:decide (e.a<0)=false:=decide_eq_false a0;have ag:=HB.out;obtain ⟨bn,ad⟩:=Int.eq_ofNat_of_zero_le (show 0<=e.b by omega);obtain ⟨an,Z⟩:=Int.eq_ofNat_of_zero_le (show 0<=e.a by omega);have ak:bn+1=S.length:=by omega
      clear ag;obtain ⟨sb,O⟩:∃ s,S[bn]?=some s:=⟨S[bn]'(by omega),by simp⟩
      obtain ⟨au,ao⟩:=hd bn sb O;obtain ⟨b,o,rfl,aq,c0,c1⟩:=hv.get O;have HS:Hid (zaJ S e=zdq S (an:Int) (bn:Int)):=show zaJ S e=_ from by
       rw[zcB U,HO.out,decide_eq_true HB.out,decide_eq_true (p:=0<=e.b) (by omega),decide_eq_true (p:=0<=e.a) (by omega),Z,ad];rfl
      clear HB;rw[ad]at d0 e1;rw[Z]at d1;have z3:(bn:Int)<(S.length:Int):=by omega
      have z4:(0:Int)<=(bn:Int):=by omega
      cases e2:((an:Int) != (sb.1:Int) - 1)
      case true=>
       have E:Hid (zaJ S e=none):=show zaJ S e=none from by
        rw[HS.out];unfold zdq;simp only[Int.toNat_natCast,O];split
        ·rename_i h1 h2;injection h1 with h1;subst h1;rw[decide_eq_false (by simp at e2;omega)];simp
        rfl
       rw[ad,Z];go_enter Tryz.func165,Tryz.ntmps165;go_wp2_with (go_at_call 174;refine (zbN e.op I G _).mono ?_;rintro e' w' ⟨rfl,rfl⟩)
       go_quiet (fail)
       go_wp2;refine bodyPost_ret (v:=.tuple #[.agg #[.int .i64 0,.int .i64 0],.bool false]) (by simp[results,Tryz.results165,go_sem]) rfl ⟨⟨0,0,by rw[E.out];rfl,fun s h=>(by rw[E.out]at h;cases h)⟩,?_⟩
       repeat first | exact X _ _ | refine za4 ?_ | refine Below.setCell ?_ (by first | (simp;done) | (simp;omega)) _
      case false=>
       have ha:an+1=sb.1:=by (simp at e2;omega)
       obtain ⟨sa,ab⟩:∃ s,S[an]?=some s:=⟨S[an]'(by omega),by simp⟩
       obtain ⟨ar,al⟩:=hd an sa ab;obtain ⟨b',o',ae,ap,c2,c3⟩:=hv.get ab;injection ae with ae;injection ae with hbe1 hbe2 _;subst hbe1 hbe2;have HV:Hid (zaJ S e=if 1+max sa.2 sb.2<=20 then some (sa.1,1+max sa.2 sb.2) else none):=show zaJ S e=_ from by
        rw[HS.out];unfold zdq;simp only[Int.toNat_natCast,O,ab];rw[decide_eq_true (p:=(an:Int)=(sb.1:Int) - 1) (by omega)];simp
       refine (zhs e (some ⟨b,o,none⟩) c S w hv hl U I G v0 z0 z1 z2 af an bn sa sb Z ad ab O ak ha ao al).mono ?_;rintro r w' ⟨rfl,ah⟩;refine ⟨⟨(sa.1:Int),((1+max sa.2 sb.2:Nat):Int),?_,?_⟩,ah⟩
       ·rw[HV.out];by_cases aj:1+max sa.2 sb.2<=20 <;> simp[aj]
       intro s h;rw[HV.out]at h;split at h
       ·injection h with h;rw[<- h];exact ⟨rfl,rfl⟩
       cases h
    have E:Hid (zaJ S e=none):=show zaJ S e=none from by simp[zcB U,opOk,zbm,isE,z2]
    go_enter Tryz.func165,Tryz.ntmps165;go_wp2;refine bodyPost_ret (v:=.tuple #[.agg #[.int .i64 0,.int .i64 0],.bool false]) (by simp[results,Tryz.results165,go_sem]) rfl ⟨⟨0,0,by rw[E.out];rfl,fun s h=>(by rw[E.out]at h;cases h)⟩,?_⟩
    repeat first | exact X _ _ | refine za4 ?_ | refine Below.setCell ?_ (by first | (simp;done) | (simp;omega)) _
   have E:Hid (zaJ S e=none):=show zaJ S e=none from by simp[zcB U,opOk,zbm,z1]
   go_enter Tryz.func165,Tryz.ntmps165;go_wp2;refine bodyPost_ret (v:=.tuple #[.agg #[.int .i64 0,.int .i64 0],.bool false]) (by simp[results,Tryz.results165,go_sem]) rfl ⟨⟨0,0,by rw[E.out];rfl,fun s h=>(by rw[E.out]at h;cases h)⟩,?_⟩
   repeat first | exact X _ _ | refine za4 ?_ | refine Below.setCell ?_ (by first | (simp;done) | (simp;omega)) _
  have E:Hid (zaJ S e=none):=show zaJ S e=none from by simp[zcB U,opOk,zbm,z0]
  go_enter Tryz.func165,Tryz.ntmps165;go_wp2;refine bodyPost_ret (v:=.tuple #[.agg #[.int .i64 0,.int .i64 0],.bool false]) (by simp[results,Tryz.results165,go_sem]) rfl ⟨⟨0,0,by rw[E.out];rfl,fun s h=>(by rw[E.out]at h;cases h)⟩,?_⟩
  repeat first | exact X _ _ | refine za4 ?_ | refine Below.setCell ?_ (by first | (simp;done) | (simp;omega)) _
 have E:Hid (zaJ S e=none):=show zaJ S e=none from by simp[zcB U,opOk,isE,v0]
 go_enter Tryz.func165,Tryz.ntmps165;go_wp2;refine bodyPost_ret (v:=.tuple #[.agg #[.int .i64 0,.int .i64 0],.bool false]) (by simp[results,Tryz.results165,go_sem]) rfl ⟨⟨0,0,by rw[E.out];rfl,fun s h=>(by rw[E.out]at h;cases h)⟩,?_⟩
 repeat first | exact X _ _ | refine za4 ?_ | refine Below.setCell ?_ (by first | (simp;done) | (simp;omega)) _
theorem size3(w:World)(o E G:Obj):(((w.alloc o).alloc E).alloc G).drew.heap.size=w.heap.size+3:=by
 show (((w.alloc o).alloc E).alloc G).heap.size=_;simp
theorem zml(e:Ex)(a:Option Addr)(c:Nat)(S:List Sp)(w:World)(hs:e.le maxLen)(k0:e.kind=0) :
  Calls Tryz.prog 143 #[.agg #[.int .i64 e.kind,.int .u8 e.op,.string e.var,.int .i64 e.val.kind,.int .i64 e.val.num,.string e.val.sym,.int .i64 e.a,.int .i64 e.b],.slice a S.length c] w fun r w'=>
   r=.returned (.tuple #[.agg #[.int .i64 (S.length:Int),.int .i64 0],.bool (zaZ e && (isE e.var && gVal e.val))])/\Below w.heap.size w w':=by
 obtain ⟨ad,O⟩:=hs;have I:∀ o o1 Z,Below w.heap.size w (((w.alloc o).alloc o1).alloc Z):=fun o o1 Z=>(((Below.refl _ _).alloc (Nat.le_refl _) _).alloc (by simp) _).alloc (by simp;omega) _;by_cases h1:e.op=0
 ·by_cases X:e.var.toList=[]
  ·by_cases h2:e.a=0
   ·by_cases h3:e.b=0
    ·have HV:Hid ((zaZ e && (isE e.var && gVal e.val))=gVal e.val):=show (zaZ e && (isE e.var && gVal e.val))=gVal e.val from by simp[zaZ,isE,h1,h2,h3,X]
     go_enter Tryz.func143,Tryz.ntmps143;go_wp2
     first
     | (go_region_law (first | (go_simp;go_at_call 163;refine (zeZ e.val _ O).mono ?_;rintro e' w' ⟨rfl,E⟩;have U:Below w.heap.size w w':=(I _ _ _).drew.trans (E.mono (by rw[size3];omega));have y0:w'.cell? ⟨w.heap.size+1,0,none⟩=some (.int .i64 0):=zaa E (by simp[go_sem]);have y1:w'.cell? ⟨w.heap.size+1,1,none⟩=some (.int .i64 0):=zaa E (by simp[go_sem]);have z0:w'.cell? ⟨w.heap.size+1+1,0,none⟩=some (.int .i64 (S.length:Int)):=zaa E (by simp[go_sem]);have z1:w'.cell? ⟨w.heap.size+1+1,1,none⟩=some (.int .i64 0):=zaa E (by simp[go_sem]);have ae:w'.frozen? ⟨w.heap.size+1,0,none⟩=false:=(by rw[(bcell E).2 _ _ (by simp)];simp[go_sem]);have ab:w'.frozen? ⟨w.heap.size+1,1,none⟩=false:=(by rw[(bcell E).2 _ _ (by simp)];simp[go_sem]))))
     | fail
     all_goals go_wp2
     all_goals refine bodyPost_ret (v:=.tuple #[.agg #[.int .i64 (S.length:Int),.int .i64 0],.bool (gVal e.val)]) (by simp[results,Tryz.results143,go_sem,y0,y1]) rfl ⟨?_,?_⟩
     all_goals first | (rw[HV.out];done) | exact (U.setCell (by simp) _).setCell (by simp) _ | (trace_state;fail)
    have G:Hid ((zaZ e && (isE e.var && gVal e.val))=false):=show (zaZ e && (isE e.var && gVal e.val))=false from by simp[zaZ,h3]
    go_enter Tryz.func143,Tryz.ntmps143;go_wp2;go_region
    all_goals go_wp2
    all_goals refine bodyPost_ret (v:=.tuple #[.agg #[.int .i64 (S.length:Int),.int .i64 0],.bool false]) (by simp[results,Tryz.results143,go_sem]) rfl ⟨?_,?_⟩
    all_goals first | (rw[G.out];done) | (repeat first | exact I _ _ _ | refine Below.drew ?_ | refine Below.setCell ?_ (by first | (simp;done) | (simp;omega)) _;done)
   have G:Hid ((zaZ e && (isE e.var && gVal e.val))=false):=show (zaZ e && (isE e.var && gVal e.val))=false from by simp[zaZ,h2]
   go_enter Tryz.func143,Tryz.ntmps143;go_wp2;go_region
   all_goals go_wp2
   all_goals refine bodyPost_ret (v:=.tuple #[.agg #[.int .i64 (S.length:Int),.int .i64 0],.bool false]) (by simp[results,Tryz.results143,go_sem]) rfl ⟨?_,?_⟩
   all_goals first | (rw[G.out];done) | (repeat first | exact I _ _ _ | refine Below.drew ?_ | refine Below.setCell ?_ (by first | (simp;done) | (simp;omega)) _;done)
  have G:Hid ((zaZ e && (isE e.var && gVal e.val))=false):=show (zaZ e && (isE e.var && gVal e.val))=false from by simp[isE,X]
  go_enter Tryz.func143,Tryz.ntmps143;go_wp2;go_region
  all_goals go_wp2
  all_goals refine bodyPost_ret (v:=.tuple #[.agg #[.int .i64 (S.length:Int),.int .i64 0],.bool false]) (by simp[results,Tryz.results143,go_sem]) rfl ⟨?_,?_⟩
  all_goals first | (rw[G.out];done) | (repeat first | exact I _ _ _ | refine Below.drew ?_ | refine Below.setCell ?_ (by first | (simp;done) | (simp;omega)) _;done)
 have G:Hid ((zaZ e && (isE e.var && gVal e.val))=false):=show (zaZ e && (isE e.var && gVal e.val))=false from by simp[zaZ,h1]
 go_enter Tryz.func143,Tryz.ntmps143;go_wp2;go_region
 all_goals go_wp2
 all_goals refine bodyPost_ret (v:=.tuple #[.agg #[.int .i64 (S.length:Int),.int .i64 0],.bool false]) (by simp[results,Tryz.results143,go_sem]) rfl ⟨?_,?_⟩
 all_goals first | (rw[G.out];done) | (repeat first | exact I _ _ _ | refine Below.drew ?_ | refine Below.setCell ?_ (by first | (simp;done) | (simp;omega)) _;done)
theorem zlV(e:Ex)(a:Option Addr)(c:Nat)(S:List Sp)(w:World)(hs:e.le maxLen)(k1:e.kind=1) :
  Calls Tryz.prog 143 #[.agg #[.int .i64 e.kind,.int .u8 e.op,.string e.var,.int .i64 e.val.kind,.int .i64 e.val.num,.string e.val.sym,.int .i64 e.a,.int .i64 e.b],.slice a S.length c] w fun r w'=>
   r=.returned (.tuple #[.agg #[.int .i64 (S.length:Int),.int .i64 0],.bool (zaZ e && (gSym e.var.data.toList && zbm e.val))])/\Below w.heap.size w w':=by
 obtain ⟨I,Z⟩:=hs;have G:∀ o X U,Below w.heap.size w (((w.alloc o).alloc X).alloc U):=fun o X U=>(((Below.refl _ _).alloc (Nat.le_refl _) _).alloc (by simp) _).alloc (by simp;omega) _;by_cases h1:e.op=0
 ·by_cases z0:e.val.kind=0
  ·by_cases O:e.val.num=0
   ·by_cases z2:e.val.sym.toList=[]
    ·by_cases h2:e.a=0
     ·by_cases h3:e.b=0
      ·have HV:Hid ((zaZ e && (gSym e.var.data.toList && zbm e.val))=gSym e.var.data.toList):=show (zaZ e && (gSym e.var.data.toList && zbm e.val))=gSym e.var.data.toList from by simp[zaZ,zbm,isE,h1,h2,h3,z0,O,z2]
       go_enter Tryz.func143,Tryz.ntmps143;go_wp2
       first
       | (go_region_law (first | (go_simp;go_at_call 96;refine (zaR e.var _ I).mono ?_;rintro e' w' ⟨rfl,rfl⟩)))
       | fail
       all_goals go_wp2
       all_goals refine bodyPost_ret (v:=.tuple #[.agg #[.int .i64 (S.length:Int),.int .i64 0],.bool (gSym e.var.data.toList)]) (by simp[results,Tryz.results143,go_sem]) rfl ⟨?_,?_⟩
       all_goals first | (rw[HV.out];done) | (repeat first | exact G _ _ _ | refine Below.drew ?_ | refine Below.setCell ?_ (by first | (simp;done) | (simp;omega)) _;done)
      have E:Hid ((zaZ e && (gSym e.var.data.toList && zbm e.val))=false):=show (zaZ e && (gSym e.var.data.toList && zbm e.val))=false from by simp[zaZ,h3]
      go_enter Tryz.func143,Tryz.ntmps143;go_wp2;go_region
      all_goals go_wp2
      all_goals refine bodyPost_ret (v:=.tuple #[.agg #[.int .i64 (S.length:Int),.int .i64 0],.bool false]) (by simp[results,Tryz.results143,go_sem]) rfl ⟨?_,?_⟩
      all_goals first | (rw[E.out];done) | (repeat first | exact G _ _ _ | refine Below.drew ?_ | refine Below.setCell ?_ (by first | (simp;done) | (simp;omega)) _;done)
     have E:Hid ((zaZ e && (gSym e.var.data.toList && zbm e.val))=false):=show (zaZ e && (gSym e.var.data.toList && zbm e.val))=false from by simp[zaZ,h2]
     go_enter Tryz.func143,Tryz.ntmps143;go_wp2;go_region
     all_goals go_wp2
     all_goals refine bodyPost_ret (v:=.tuple #[.agg #[.int .i64 (S.length:Int),.int .i64 0],.bool false]) (by simp[results,Tryz.results143,go_sem]) rfl ⟨?_,?_⟩
     all_goals first | (rw[E.out];done) | (repeat first | exact G _ _ _ | refine Below.drew ?_ | refine Below.setCell ?_ (by first | (simp;done) | (simp;omega)) _;done)
    have E:Hid ((zaZ e && (gSym e.var.data.toList && zbm e.val))=false):=show (zaZ e && (gSym e.var.data.toList && zbm e.val))=false from by simp[zbm,isE,z2]
    go_enter Tryz.func143,Tryz.ntmps143;go_wp2;go_region
    all_goals go_wp2
    all_goals refine bodyPost_ret (v:=.tuple #[.agg #[.int .i64 (S.length:Int),.int .i64 0],.bool false]) (by simp[results,Tryz.results143,go_sem]) rfl ⟨?_,?_⟩
    all_goals first | (rw[E.out];done) | (repeat first | exact G _ _ _ | refine Below.drew ?_ | refine Below.setCell ?_ (by first | (simp;done) | (simp;omega)) _;done)
   have E:Hid ((zaZ e && (gSym e.var.data.toList && zbm e.val))=false):=show (zaZ e && (gSym e.var.data.toList && zbm e.val))=false from by simp[zbm,O]
   go_enter Tryz.func143,Tryz.ntmps143;go_wp2;go_region
   all_goals go_wp2
   all_goals refine bodyPost_ret (v:=.tuple #[.agg #[.int .i64 (S.length:Int),.int .i64 0],.bool false]) (by simp[results,Tryz.results143,go_sem]) rfl ⟨?_,?_⟩
   all_goals first | (rw[E.out];done) | (repeat first | exact G _ _ _ | refine Below.drew ?_ | refine Below.setCell ?_ (by first | (simp;done) | (simp;omega)) _;done)
  have E:Hid ((zaZ e && (gSym e.var.data.toList && zbm e.val))=false):=show (zaZ e && (gSym e.var.data.toList && zbm e.val))=false from by simp[zbm,z0]
  go_enter Tryz.func143,Tryz.ntmps143;go_wp2;go_region
  all_goals go_wp2
  all_goals refine bodyPost_ret (v:=.tuple #[.agg #[.int .i64 (S.length:Int),.int .i64 0],.bool false]) (by simp[results,Tryz.results143,go_sem]) rfl ⟨?_,?_⟩
  all_goals first | (rw[E.out];done) | (repeat first | exact G _ _ _ | refine Below.drew ?_ | refine Below.setCell ?_ (by first | (simp;done) | (simp;omega)) _;done)
 have E:Hid ((zaZ e && (gSym e.var.data.toList && zbm e.val))=false):=show (zaZ e && (gSym e.var.data.toList && zbm e.val))=false from by simp[zaZ,h1]
 go_enter Tryz.func143,Tryz.ntmps143;go_wp2;go_region
 all_goals go_wp2
 all_goals refine bodyPost_ret (v:=.tuple #[.agg #[.int .i64 (S.length:Int),.int .i64 0],.bool false]) (by simp[results,Tryz.results143,go_sem]) rfl ⟨?_,?_⟩
 all_goals first | (rw[E.out];done) | (repeat first | exact G _ _ _ | refine Below.drew ?_ | refine Below.setCell ?_ (by first | (simp;done) | (simp;omega)) _;done)
theorem zcp{p:Prop}(h:p):Hid p:=h
theorem zgg(e:Ex)(a:Option Addr)(c:Nat)(S:List Sp){q:Option Nat}(w:World)(hv:zek q w a S)(hl:S.length<=60)(hs:e.le maxLen)(Z:0<=e.op)(O:e.op<256)(hd:∀ (i:Nat) (s:Sp),S[i]?=some s->s.1<=i/\s.2<=20) :
  Calls Tryz.prog 143 #[.agg #[.int .i64 e.kind,.int .u8 e.op,.string e.var,.int .i64 e.val.kind,.int .i64 e.val.num,.string e.val.sym,.int .i64 e.a,.int .i64 e.b],.slice a S.length c] w fun r w'=>
   (∃ f d:Int,r=.returned (.tuple #[.agg #[.int .i64 f,.int .i64 d],.bool (zaJ S e).isSome])/\∀ s,zaJ S e=some s->f=(s.1:Int)/\d=(s.2:Int))/\Below w.heap.size w w':=by
 by_cases k0:e.kind=0
 ·have G:zaJ S e=if zaZ e && (isE e.var && gVal e.val) then some (S.length,0) else none:=by simp[zaJ,k0]
  refine (zml e a c S w hs k0).mono ?_;rintro r w' ⟨rfl,hb⟩;rw[G];refine ⟨⟨S.length,0,?_,?_⟩,hb⟩
  ·cases zaZ e && (isE e.var && gVal e.val) <;> rfl
  intro s h;split at h
  ·injection h with h;rw[<- h];exact ⟨rfl,rfl⟩
  cases h
 by_cases U:e.kind=1
 ·have G:zaJ S e=if zaZ e && (gSym e.var.data.toList && zbm e.val) then some (S.length,0) else none:=by simp[zaJ,U]
  refine (zlV e a c S w hs U).mono ?_;rintro r w' ⟨rfl,hb⟩;rw[G];refine ⟨⟨S.length,0,?_,?_⟩,hb⟩
  ·cases zaZ e && (gSym e.var.data.toList && zbm e.val) <;> rfl
  intro s h;split at h
  ·injection h with h;rw[<- h];exact ⟨rfl,rfl⟩
  cases h
 have B3:∀ o o1 o2,Below w.heap.size w (((w.alloc o).alloc o1).alloc o2):=fun o o1 o2=>(((Below.refl _ _).alloc (Nat.le_refl _) _).alloc (by simp) _).alloc (by simp;omega) _;by_cases k2:e.kind=2
 ·have I:=fun w h=>zhf e a c S (q:=q) w h hl k2 Z O hd;simp only[k2]at I;have HP:=zcp I;clear I;go_enter Tryz.func143,Tryz.ntmps143;go_wp2_with (go_at_call 165;refine (HP.out _ (hv.below (B3 _ _ _))).mono ?_;rintro e' w' ⟨⟨f,d,rfl,ab⟩,E⟩;have y0:w'.cell? ⟨w.heap.size+1,0,none⟩=some (.int .i64 0):=zaa E (by simp[go_sem]);have y1:w'.cell? ⟨w.heap.size+1,1,none⟩=some (.int .i64 0):=zaa E (by simp[go_sem]);have ae:w'.frozen? ⟨w.heap.size+1,0,none⟩=false:=(by rw[(bcell E).2 _ _ (by simp)];simp[go_sem]);have ad:w'.frozen? ⟨w.heap.size+1,1,none⟩=false:=(by rw[(bcell E).2 _ _ (by simp)];simp[go_sem]));have X:Below w.heap.size w w':=(B3 _ _ _).trans (E.mono (by simp;omega));refine bodyPost_ret (v:=.tuple #[.agg #[.int .i64 f,.int .i64 d],.bool (zaJ S e).isSome]) (by simp[results,Tryz.results143,go_sem,y0,y1]) rfl ⟨⟨f,d,rfl,ab⟩,(X.setCell (by simp) _).setCell (by simp) _⟩
 have HN:Hid (zaJ S e=none):=show zaJ S e=none from by simp[zaJ,k0,U,k2]
 go_enter Tryz.func143,Tryz.ntmps143;go_wp2;refine bodyPost_ret (v:=.tuple #[.agg #[.int .i64 0,.int .i64 0],.bool false]) (by simp[results,Tryz.results143,go_sem]) rfl ⟨⟨0,0,by rw[HN.out];rfl,fun s h=>(by rw[HN.out]at h;cases h)⟩,B3 _ _ _⟩
def zcD(s:Sp):List Value:=[.int .i64 (s.1:Int),.int .i64 (s.2:Int)]
theorem zjA:∀ (S:List Sp) (i:Nat) (s:Sp),S[i]?=some s->(S.flatMap zcD)[i * 2]?=some (.int .i64 (s.1:Int))/\(S.flatMap zcD)[i * 2+1]?=some (.int .i64 (s.2:Int))
 | [],i,s,h=>by simp at h
 | x :: r,0,s,h=>by
  simp at h
  subst h
  exact ⟨rfl,rfl⟩
 | x :: r,i+1,s,h=>by
  have:=zjA r i s (by simpa using h)
  rw[List.flatMap_cons]
  refine ⟨?_,?_⟩
  ·rw[List.getElem?_append_right (by simp[zcD];omega),show (i+1) * 2 - (zcD x).length=i * 2 by simp[zcD];omega]
   exact this.1
  rw[List.getElem?_append_right (by simp[zcD];omega),show (i+1) * 2+1 - (zcD x).length=i * 2+1 by simp[zcD];omega]
  exact this.2
theorem zek.owns{w:World}{base n:Nat}{a:Option Addr}{c:Nat}{S:List Sp}(h:w.ownsRow base 201 2 (.slice a n c) n (S.flatMap zcD)):zek none w a S:=by
 intro i s hs;obtain ⟨O,G⟩:=zjA S i s hs;obtain ⟨g,rfl,_,I,_⟩:=zbE h O;obtain ⟨g1,E,_,h1,_⟩:=zbE h G
 cases E
 refine ⟨g,0,[.int .i64 (s.1:Int),.int .i64 (s.2:Int)],rfl,Qb.bare _ _ _,rfl,?_,rfl⟩;intro j v hj;rw[Nat.zero_add]
 match j,hj with
 | 0,hj=>simp at hj;subst hj;exact I
 | 1,hj=>simp at hj;subst hj;exact h1
theorem zr8:(Tryz.prog.info? 201).map (fun i=>(i.zero,i.size,i.bytes))=some (some (.agg #[.int .i64 0,.int .i64 0]),2,16):=by kernel_rfl
theorem zkc(w:World)(L:List Value)(t:TypeId)(E:Addr)(e:some (⟨w.heap.size,0,none⟩:Addr)=some E)(j:Nat)(u:Value)(h:L[j]?=some u):(w.alloc (.cells L.toArray t)).cell? (E.add j)=some u:=by
 cases e
 rw[Addr.add_mid,Nat.zero_add];have hb:=heap_alloc_new w (.cells L.toArray t);simp only[World.cell?,hb];simpa using h
theorem zg0(w:World)(L:List Value)(t:TypeId)(b:Nat)(hb:b=w.heap.size)(E:Addr)(e:some (⟨b,0,none⟩:Addr)=some E)(j:Nat)(u:Value)(h:L[j]?=some u):(w.alloc (.cells L.toArray t)).cell? (E.add j)=some u:=by
 subst hb;exact zkc w L t E e j u h
theorem zob{w w':World}{base:Nat}{e:TypeId}{size:Nat}{v:Value}{n:Nat}{xs:List Value}(h:w.ownsRow base e size v n xs)(hb:Below w.heap.size w w'):w'.ownsRow base e size v n xs:=
 zar h (fun g hg=>hb.block g (h.lt g hg).2)
theorem zkf(s:Sp):∀ u∈zcD s,u.oneCell'=true:=by
 intro u E;simp[zcD]at E;rcases E with rfl | rfl <;> rfl
def zg8(es:List Ex):Prop:=∀ e∈es,0<=e.op/\e.op<256
theorem zjM(x:Ru)(a_pats:Option Addr)(c_pats:Nat)(a_exprs:Option Addr)(c_exprs:Nat)(a_acts:Option Addr)(c_acts:Nat){q:Option Nat}(w:World)(U:zbG q w a_exprs x.exprs)(hl:x.exprs.length<=60)(hs:zb3 Ex.le maxLen x.exprs)(ho:zg8 x.exprs) :
  Calls Tryz.prog 98 #[.agg #[.string x.name,.int .i64 x.sal,.slice a_pats x.pats.length c_pats,.slice a_exprs x.exprs.length c_exprs,.slice a_acts x.acts.length c_acts]] w fun e w'=>
   (∃ a c,e=.returned (.tuple #[.slice a (zat [] x.exprs).length c,.bool (decide ((zat [] x.exprs).length=x.exprs.length))])/\zek none w' a (zat [] x.exprs))/\Below w.heap.size w w':=by
 go_enter Tryz.func98,Tryz.ntmps98;go_wp2
 go_loopw [4,12] (fun v i wr=>∃ (S:List Sp) (a:Option Addr) (c:Nat),S.length<=x.exprs.length/\i=.int .i64 (S.length:Int)/\v=.slice a S.length c/\Spans x.exprs S/\zat [] x.exprs=zat S (x.exprs.drop S.length)/\wr.ownsRow w.heap.size 201 2 (.slice a S.length c) S.length (S.flatMap zcD)/\Below w.heap.size w wr) (fun _ i _=>x.exprs.length - (intOf i).toNat)
 case atStart=>exact ⟨[],none,0,by simp,rfl,rfl,Spans.nil _,rfl,World.ownsRow_nil _ _ _ _,(Below.refl _ _).alloc (Nat.le_refl _) _⟩
 case round=>
  obtain ⟨S,a,c,hk,rfl,rfl,hS,hG,hown,hb⟩:=hrel;have HG:Hid (zat [] x.exprs=zat S (x.exprs.drop S.length)):=hG;have HO:=zcp hown;clear hG hown;by_cases aj:S.length<x.exprs.length
  ·obtain ⟨e,I⟩:∃ e,x.exprs[S.length]?=some e:=⟨x.exprs[S.length],by simp[aj]⟩
   obtain ⟨b,o,rfl,hq,c0,c1,c2,c3,c4,c5,c6,c7⟩:=(U.below hb).get I;have HD:Hid (x.exprs.drop S.length=e :: x.exprs.drop (S.length+1)):=zaU I;have ad:=hs.2 e (List.mem_of_getElem? I);obtain ⟨ab,G⟩:=ho e (List.mem_of_getElem? I);have hd:Hid (∀ (i:Nat) (s:Sp),S[i]?=some s->s.1<=i/\s.2<=20):=show ∀ (i:Nat) (s:Sp),S[i]?=some s->s.1<=i/\s.2<=20 from fun i s h=>⟨hS.first_le i s h,hS.depth_le i s h⟩
   have HS:=zcp hS;clear hS;have B1:=zHB wr
   cases X:zaJ S e with
   | none=>
    have HN:Hid (zat [] x.exprs=S):=show zat [] x.exprs=S from by rw[HG.out,HD.out,zat,X]
    go_wp2_with (go_at_call 143;refine (zgg e a c S _ ((zek.owns HO.out).below (B1 _)) (by omega) ad ab G hd.out).mono ?_;rintro e' w1 ⟨⟨f,d,rfl,ae⟩,Z⟩);have E:Below wr.heap.size wr w1:=(B1 _).trans (Z.mono (by simp));have O:Below w.heap.size w w1:=hb.trans (E.mono hb.size);refine bodyPost_ret (v:=.tuple #[.slice a S.length c,.bool false]) (by simp[results,Tryz.results98,go_sem]) rfl ⟨⟨a,c,by rw[HN.out,decide_eq_false (by omega)],?_⟩,O.alloc O.size _⟩;rw[HN.out];exact ((zek.owns HO.out).below E).below ((Below.refl _ _).alloc (Nat.le_refl _) _)
   | some s=>
    have HN:Hid (zat [] x.exprs=zat (S ++ [s]) (x.exprs.drop (S.length+1))):=show zat [] x.exprs=_ from by rw[HG.out,HD.out,zat,X]
    go_wp2_with (first | (go_at_call 143;refine (zgg e a c S _ ((zek.owns HO.out).below (B1 _)) (by omega) ad ab G hd.out).mono ?_;rintro e' w1 ⟨⟨f,d,rfl,ae⟩,Z⟩;obtain ⟨rfl,rfl⟩:=ae s X;have E:Below wr.heap.size wr w1:=(B1 _).trans (Z.mono (by simp));have G:=zcp (zob HO.out E)) | (at_builtin;refine zag (by rfl) (.tmp 25) (.tmp 27) 153 (by rfl) w.heap.size 201 _ 2 16 Tryz.underlying153 zr8 (by rfl) (by omega) _ S.length _ (by rfl) ((G.out.alloc _).alloc _) (some ⟨w1.heap.size+1,0,none⟩) 1 1 (by rfl) (zcD s) (by rfl) (fun e=>by cases e) (zg0 _ _ _ _ (by simp)) (zkf s) (by unfold maxLen;omega) (by omega) (by have h1:=hb.size;have h2:=E.size;simp;omega) ?_;intro a2 af w2 ah ag ak));have O:Below w.heap.size w w1:=hb.trans (E.mono hb.size);have hsz:=O.size;go_roundw
    case rel=>
     refine ⟨S ++ [s],a2,af,by simp;omega,by simp,by simp,HS.out.snoc I X,?_,?_,?_⟩
     ·rw[HN.out];simp
     ·have:=ah.out;rw[List.flatMap_append];simpa[zcD] using this
     ·exact ((O.alloc hsz _).alloc (by simp;omega) _).grown ag.out (by simp;omega) (fun j hj=>(G.out.lt j hj).1)
    case measure=>simp[intOf];omega
  go_wp2;have HN:Hid (zat [] x.exprs=S):=show zat [] x.exprs=S from by
   rw[HG.out,List.drop_eq_nil_of_le (by omega)];rfl
  refine bodyPost_ret (v:=.tuple #[.slice a S.length c,.bool true]) (by simp[results,Tryz.results98,go_sem]) rfl ⟨⟨a,c,by rw[HN.out,decide_eq_true (by omega)],?_⟩,hb⟩;rw[HN.out];exact zek.owns HO.out
theorem zbS(y:Ac)(O I G E:Bool)(x:Bool)(h1:(y.kind==1)=O)(h2:(y.kind==2)=I)(h3:(y.kind==3)=G)(U:(y.kind==4)=E)(h:x=(if O then gCls y.cls && y.k==0
  else if I then (y.cls.toList.isEmpty && (decide (-1000000<=y.k) && decide (y.k<=1000000))) && ((y.args.length:Int)==0)
  else if G then y.cls.toList.isEmpty && (decide (-1000000<=y.k) && decide (y.k<=1000000))
  else if E then y.cls.toList.isEmpty && (y.k==0 && ((y.args.length:Int)==0))
  else false)):x=zav y:=by
 have L:y.args.isEmpty=((y.args.length:Int)==0):=by
  cases y.args with
  | nil=>rfl
  | cons v r=>simp;omega
 rw[h,<- h1,<- h2,<- h3,<- U,<- L];rfl
theorem zc8(y:Ac)(a_args:Option Addr)(c_args:Nat)(w:World)(X:y.cls.size<=maxLen) :
  Calls Tryz.prog 144 #[.agg #[.int .i64 y.kind,.int .i64 y.k,.string y.cls,.slice a_args y.args.length c_args]] w fun e w'=>
   e=.returned (.bool (zav y))/\Below w.heap.size w w':=by
 have U:=zHB w
 cases he:y.cls.toList.isEmpty
 ·by_cases I:y.kind=1
  ·cases hg:gCls y.cls
   all_goals
    go_enter Tryz.func144,Tryz.ntmps144;go_wp2_with (go_at_call 141;refine (zcG y.cls _ X).mono ?_;rintro e w' ⟨rfl,rfl⟩);go_ret;exact ⟨zah (zbS y true false false false _ (by simp[I]) (by simp[I]) (by simp[I]) (by simp[I]) (by simp[hg])),U _⟩
  by_cases O:y.kind=2
  ·go_enter Tryz.func144,Tryz.ntmps144;go_wp2;go_ret;exact ⟨zah (zbS y false true false false _ (by simp[O]) (by simp[O]) (by simp[O]) (by simp[O]) (by simp[he])),U _⟩
  by_cases G:y.kind=3
  ·go_enter Tryz.func144,Tryz.ntmps144;go_wp2;go_ret;exact ⟨zah (zbS y false false true false _ (by simp[G]) (by simp[G]) (by simp[G]) (by simp[G]) (by simp[he])),U _⟩
  by_cases E:y.kind=4
  ·go_enter Tryz.func144,Tryz.ntmps144;go_wp2;go_ret;exact ⟨zah (zbS y false false false true _ (by simp[E]) (by simp[E]) (by simp[E]) (by simp[E]) (by simp[he])),U _⟩
  go_enter Tryz.func144,Tryz.ntmps144;go_wp2;go_ret;exact ⟨zah (zbS y false false false false _ (by simpa using I) (by simpa using O) (by simpa using G) (by simpa using E) rfl),U _⟩
 have hb:(-1000000<=y.k/\y.k<=1000000)∨(¬ -1000000<=y.k/\y.k<=1000000)∨(-1000000<=y.k/\¬ y.k<=1000000):=by omega
 rcases hb with ⟨Z,b2⟩ | ⟨Z,b2⟩ | ⟨Z,b2⟩
 all_goals
  by_cases I:y.kind=1
  ·cases hg:gCls y.cls
   all_goals
    go_enter Tryz.func144,Tryz.ntmps144;go_wp2_with (go_at_call 141;refine (zcG y.cls _ X).mono ?_;rintro e w' ⟨rfl,rfl⟩);go_ret;exact ⟨zah (zbS y true false false false _ (by simp[I]) (by simp[I]) (by simp[I]) (by simp[I]) (by simp[hg])),U _⟩
  by_cases O:y.kind=2
  ·go_enter Tryz.func144,Tryz.ntmps144;go_wp2;go_ret;exact ⟨zah (zbS y false true false false _ (by simp[O]) (by simp[O]) (by simp[O]) (by simp[O]) (by simp[he,Z,b2] <;> intros <;> omega)),U _⟩
  by_cases G:y.kind=3
  ·go_enter Tryz.func144,Tryz.ntmps144;go_wp2;go_ret;exact ⟨zah (zbS y false false true false _ (by simp[G]) (by simp[G]) (by simp[G]) (by simp[G]) (by simp[he,Z,b2] <;> intros <;> omega)),U _⟩
  by_cases E:y.kind=4
  ·by_cases z0:y.k=0
   ·first
    | (exfalso;omega)
    | (go_enter Tryz.func144,Tryz.ntmps144
       go_wp2;go_ret;exact ⟨zah (zbS y false false false true _ (by simp[E]) (by simp[E]) (by simp[E]) (by simp[E]) (by simp[he,z0])),(Below.refl _ _).alloc (Nat.le_refl _) _⟩)
   go_enter Tryz.func144,Tryz.ntmps144;go_wp2;go_ret;exact ⟨zah (zbS y false false false true _ (by simp[E]) (by simp[E]) (by simp[E]) (by simp[E]) (by simp[he,z0])),(Below.refl _ _).alloc (Nat.le_refl _) _⟩
  go_enter Tryz.func144,Tryz.ntmps144;go_wp2;go_ret;exact ⟨zah (zbS y false false false false _ (by simpa using I) (by simpa using O) (by simpa using G) (by simpa using E) rfl),U _⟩
theorem zgm(y:Ac)(a_args:Option Addr)(c_args:Nat)(ab:Option Addr)(ah:Nat)(S:List Sp)(nx:Nat){q q':Option Nat}(w:World)(U:zbL q w a_args y.args)(hv:zek q' w ab S)(hl:S.length<=60)(X:y.cls.size<=maxLen)(ap:y.args.length<=1048576)(aj:nx<=60) :
  Calls Tryz.prog 99 #[.agg #[.int .i64 y.kind,.int .i64 y.k,.string y.cls,.slice a_args y.args.length c_args],.slice ab S.length ah,.int .i64 (nx:Int)] w fun e w'=>
   (∃ v:Int,e=.returned (.tuple #[.int .i64 v,.bool (gAc S y nx).isSome])/\∀ n,gAc S y nx=some n->v=(n:Int)/\n<=60)/\Below w.heap.size w w':=by
 have B0:=zHB w;obtain ⟨G⟩:Nonempty (Hid (gAc S y nx=if zav y && decide (y.args.length<=6) then zaT S y.args nx else none)):=⟨rfl⟩
 cases Z:zav y
 ·have E:Hid (gAc S y nx=none):=show gAc S y nx=none from by rw[G.out,Z];rfl
  go_enter Tryz.func99,Tryz.ntmps99;go_wp2_with (go_at_call 144;refine (zc8 y a_args c_args _ X).mono ?_;rintro e w' ⟨rfl,I⟩);refine bodyPost_ret (v:=.tuple #[.int .i64 (nx:Int),.bool false]) (by simp[results,Tryz.results99,go_sem]) rfl ⟨⟨nx,by rw[E.out];rfl,fun n h=>(by rw[E.out]at h;cases h)⟩,(B0 _).trans (I.mono (by simp))⟩
 by_cases hn:6<y.args.length
 ·have af:(6:Int)<(y.args.length:Int):=by omega
  have E:Hid (gAc S y nx=none):=show gAc S y nx=none from by rw[G.out,Z,decide_eq_false (by omega)];rfl
  go_enter Tryz.func99,Tryz.ntmps99;go_wp2_with (go_at_call 144;refine (zc8 y a_args c_args _ X).mono ?_;rintro e w' ⟨rfl,I⟩;have q3:w'.cell? ⟨w.heap.size,3,none⟩=some (.slice a_args y.args.length c_args):=zaa I (by simp[go_sem]));refine bodyPost_ret (v:=.tuple #[.int .i64 (nx:Int),.bool false]) (by simp[results,Tryz.results99,go_sem]) rfl ⟨⟨nx,by rw[E.out];rfl,fun n h=>(by rw[E.out]at h;cases h)⟩,(B0 _).trans (I.mono (by simp))⟩
 have af:¬ (6:Int)<(y.args.length:Int):=by omega
 have ae:Hid (gAc S y nx=zaT S y.args nx):=show gAc S y nx=_ from by rw[G.out,Z,decide_eq_true (by omega)];rfl
 go_enter Tryz.func99,Tryz.ntmps99;go_wp2_with (go_at_call 144;refine (zc8 y a_args c_args _ X).mono ?_;rintro e w' ⟨rfl,I⟩;have q3:w'.cell? ⟨w.heap.size,3,none⟩=some (.slice a_args y.args.length c_args):=zaa I (by simp[go_sem]));have hB:Below w.heap.size w w':=(B0 _).trans (I.mono (by simp));clear q3 I
 go_loopw [2,23] (fun n i wr=>∃ (k O:Nat),k<=y.args.length/\i=.int .i64 k/\n=.int .i64 (O:Int)/\O<=60/\zaT S y.args nx=zaT S (y.args.drop k) O/\Below w.heap.size w wr) (fun _ i _=>y.args.length - (intOf i).toNat)
 case atStart=>exact ⟨0,nx,by omega,rfl,rfl,aj,rfl,hB⟩
 case round=>
  obtain ⟨k,O,hk,rfl,rfl,ag,hG,hb⟩:=hrel;have HG:Hid (gAc S y nx=zaT S (y.args.drop k) O):=show gAc S y nx=_ from by rw[ae.out,hG]
  clear hG;by_cases ak:k<y.args.length
  ·obtain ⟨v,ad⟩:∃ v,y.args[k]?=some v:=⟨y.args[k],by simp[ak]⟩
   obtain ⟨b,o,rfl,hq,c0⟩:=(U.below hb).get ad;have HD:Hid (y.args.drop k=v :: y.args.drop (k+1)):=zaU ad;by_cases v0:v<0
   ·have E:Hid (gAc S y nx=none):=show gAc S y nx=none from by
     rw[HG.out,HD.out,zbg,decide_eq_false (by omega)];rfl
    go_wp2;refine bodyPost_ret (v:=.tuple #[.int .i64 (O:Int),.bool false]) (by simp[results,Tryz.results99,go_sem]) rfl ⟨⟨O,by rw[E.out];rfl,fun n h=>(by rw[E.out]at h;cases h)⟩,hb⟩
   by_cases v1:(S.length:Int)<=v
   ·have E:Hid (gAc S y nx=none):=show gAc S y nx=none from by
     rw[HG.out,HD.out,zbg,decide_eq_false (p:=v<(S.length:Int)) (by omega)];simp
    go_wp2;refine bodyPost_ret (v:=.tuple #[.int .i64 (O:Int),.bool false]) (by simp[results,Tryz.results99,go_sem]) rfl ⟨⟨O,by rw[E.out];rfl,fun n h=>(by rw[E.out]at h;cases h)⟩,hb⟩
   obtain ⟨vn,rfl⟩:=Int.eq_ofNat_of_zero_le (show 0<=v by omega);have ao:vn<S.length:=by omega
   obtain ⟨s,hs⟩:∃ s,S[vn]?=some s:=⟨S[vn],by simp⟩
   obtain ⟨b',o',rfl,al,d0,d1⟩:=(hv.below hb).get hs;have z1:¬ S.length<=vn:=by omega
   cases e3:((s.1:Int) != (O:Int))
   ·have E:Hid (gAc S y nx=zaT S (y.args.drop (k+1)) (vn+1)):=show gAc S y nx=_ from by
     have:s.1=O:=by (simp at e3;omega)
     rw[HG.out,HD.out,zbg,decide_eq_true (by omega),decide_eq_true (by omega),Int.toNat_natCast,hs,Option.getD_some,decide_eq_true this];rfl
    go_wp2;go_roundw
    case rel=>
     exact ⟨k+1,vn+1,by omega,by go_num,by go_num,by omega,by rw[<- ae.out,E.out],hb⟩
    case measure=>simp[intOf];omega
   have E:Hid (gAc S y nx=none):=show gAc S y nx=none from by
    have:¬ s.1=O:=by (simp at e3;omega)
    rw[HG.out,HD.out,zbg,Int.toNat_natCast,hs,Option.getD_some,decide_eq_false this];simp
   go_wp2;refine bodyPost_ret (v:=.tuple #[.int .i64 (O:Int),.bool false]) (by simp[results,Tryz.results99,go_sem]) rfl ⟨⟨O,by rw[E.out];rfl,fun n h=>(by rw[E.out]at h;cases h)⟩,hb⟩
  have E:Hid (gAc S y nx=some O):=show gAc S y nx=_ from by
   rw[HG.out,List.drop_eq_nil_of_le (by omega)];rfl
  go_wp2;refine bodyPost_ret (v:=.tuple #[.int .i64 (O:Int),.bool true]) (by simp[results,Tryz.results99,go_sem]) rfl ⟨⟨O,by rw[E.out];rfl,fun n h=>(by rw[E.out]at h;injection h with h;subst h;exact ⟨rfl,ag⟩)⟩,hb⟩
def rest(x:Ru):Option Nat:=if (zat [] x.exprs).length<x.exprs.length then some ((zat [] x.exprs).length+1) else zbP (zat [] x.exprs) x.acts 0 1
theorem zi2(x:Ru)(h:zck x=true):shape x=match zaI gPt x.pats 1 with | some i=>some i | none=>rest x:=by
 unfold shape rest;rw[if_pos h]
 cases zaI gPt x.pats 1 <;> rfl
theorem zcL(S:List Sp)(a:Ac)(r:List Ac)(nx k:Nat):zbP S (a :: r) nx k=match gAc S a nx with | none=>some k | some nx'=>zbP S r nx' (k+1):=rfl
theorem zoa(x:Ru)(a_pats:Option Addr)(c_pats:Nat)(a_exprs:Option Addr)(c_exprs:Nat)(a_acts:Option Addr)(c_acts:Nat){q:Option Nat}(w:World)(ao:zdv q w a_pats x.pats)(O:zbG q w a_exprs x.exprs)(aq:zdY q w a_acts x.acts)(aU:x.le 1048576)(ho:zg8 x.exprs) :
  Calls Tryz.prog 51 #[.agg #[.string x.name,.int .i64 x.sal,.slice a_pats x.pats.length c_pats,.slice a_exprs x.exprs.length c_exprs,.slice a_acts x.acts.length c_acts]] w fun e w'=>
   (∃ i:Int,e=.returned (.tuple #[.int .i64 i,.bool (shape x).isNone])/\∀ n,shape x=some n->i=(n:Int))/\Below w.heap.size w w':=by
 obtain ⟨aQ,aH,az,aP⟩:=aU;have ad:x.name.size<=maxLen:=Nat.le_trans aQ zbH;have a7:=aH.1;have a8:=az.1;have bc:=aP.1;have B0:=zHB w
 cases hg:gSym x.name.data.toList
 ·have G:Hid (shape x=some 0):=show shape x=some 0 from by simp[shape,zck,hg]
  go_enter Tryz.func51,Tryz.ntmps51;go_wp2_with (go_at_call 96;refine (zaR x.name _ ad).mono ?_;rintro e w' ⟨rfl,rfl⟩);refine bodyPost_ret (v:=.tuple #[.int .i64 0,.bool false]) (by simp[results,Tryz.results51,go_sem]) rfl ⟨⟨0,by rw[G.out];rfl,fun i h=>(by rw[G.out]at h;injection h with h;subst h;rfl)⟩,B0 _⟩
 by_cases l6:6<x.pats.length
 ·have aX:(6:Int)<(x.pats.length:Int):=by omega
  have G:Hid (shape x=some 0):=show shape x=some 0 from by simp[shape,zck];omega
  go_enter Tryz.func51,Tryz.ntmps51;go_wp2_with (go_at_call 96;refine (zaR x.name _ ad).mono ?_;rintro e w' ⟨rfl,rfl⟩);refine bodyPost_ret (v:=.tuple #[.int .i64 0,.bool false]) (by simp[results,Tryz.results51,go_sem]) rfl ⟨⟨0,by rw[G.out];rfl,fun i h=>(by rw[G.out]at h;injection h with h;subst h;rfl)⟩,B0 _⟩
 have aX:¬ (6:Int)<(x.pats.length:Int):=by omega
 by_cases l8:8<x.acts.length
 ·have aW:(8:Int)<(x.acts.length:Int):=by omega
  have G:Hid (shape x=some 0):=show shape x=some 0 from by simp[shape,zck];omega
  go_enter Tryz.func51,Tryz.ntmps51;go_wp2_with (go_at_call 96;refine (zaR x.name _ ad).mono ?_;rintro e w' ⟨rfl,rfl⟩);refine bodyPost_ret (v:=.tuple #[.int .i64 0,.bool false]) (by simp[results,Tryz.results51,go_sem]) rfl ⟨⟨0,by rw[G.out];rfl,fun i h=>(by rw[G.out]at h;injection h with h;subst h;rfl)⟩,B0 _⟩
 have aW:¬ (8:Int)<(x.acts.length:Int):=by omega
 by_cases bb:60<x.exprs.length
 ·have aG:(60:Int)<(x.exprs.length:Int):=by omega
  have G:Hid (shape x=some 0):=show shape x=some 0 from by simp[shape,zck];omega
  go_enter Tryz.func51,Tryz.ntmps51;go_wp2_with (go_at_call 96;refine (zaR x.name _ ad).mono ?_;rintro e w' ⟨rfl,rfl⟩);refine bodyPost_ret (v:=.tuple #[.int .i64 0,.bool false]) (by simp[results,Tryz.results51,go_sem]) rfl ⟨⟨0,by rw[G.out];rfl,fun i h=>(by rw[G.out]at h;injection h with h;subst h;rfl)⟩,B0 _⟩
 have aG:¬ (60:Int)<(x.exprs.length:Int):=by omega
 have HH:Hid (shape x=match zaI gPt x.pats 1 with | some i=>some i | none=>rest x):=zi2 x (by simp[zck,hg];omega);go_enter Tryz.func51,Tryz.ntmps51;go_wp2_with (go_at_call 96;refine (zaR x.name _ ad).mono ?_;rintro e w' ⟨rfl,rfl⟩)
 go_loopw [35] (fun i wr=>∃ (k:Nat),k<=x.pats.length/\i=.int .i64 k/\(shape x=match zaI gPt (x.pats.drop k) (k+1) with | some i=>some i | none=>rest x)/\zcK wr w.heap.size x a_pats c_pats a_exprs c_exprs a_acts c_acts/\Below w.heap.size w wr) (fun i _=>x.pats.length - (intOf i).toNat)
 case atStart=>exact ⟨0,by omega,rfl,HH.out,zcK.made _ _ _ _ _ _ _ _ _,B0 _⟩
 case round=>
  obtain ⟨k,hk,rfl,hG,af,hb⟩:=hrel;have HG:Hid (shape x=match zaI gPt (x.pats.drop k) (k+1) with | some i=>some i | none=>rest x):=hG;clear hG;by_cases aZ:k<x.pats.length
  ·obtain ⟨p,aw⟩:∃ p,x.pats[k]?=some p:=⟨x.pats[k],by simp[aZ]⟩
   obtain ⟨b,o,a_terms,c_terms,rfl,hq,c0,c1,c2,ah⟩:=(ao.below hb).get aw;have ay:=aH.2 p (List.mem_of_getElem? aw);have HD:Hid (x.pats.drop k=p :: x.pats.drop (k+1)):=zaU aw;have B1:=zHB wr
   cases aI:gPt p
   all_goals
    go_wp2_with (go_at_call 97;refine (zjg p a_terms c_terms _ (ah.below (B1 _)) (Nat.le_trans ay.1 zbH) (ay.2.mono zbH (Tm.mono zbH)) ay.2.1).mono ?_;rintro e w1 ⟨rfl,I⟩)
   ·have G:Hid (shape x=some (k+1)):=show shape x=_ from by rw[HG.out,HD.out,zaE,aI];rfl
    have ap:Below wr.heap.size wr w1:=(B1 _).trans (I.mono (by simp));refine bodyPost_ret (v:=.tuple #[.int .i64 ((k:Int)+1),.bool false]) (by simp[results,Tryz.results51,go_sem]) rfl ⟨⟨(k:Int)+1,by rw[G.out];rfl,fun i h=>(by rw[G.out]at h;injection h with h;subst h;simp)⟩,hb.trans (ap.mono hb.size)⟩
   have G:Hid (shape x=match zaI gPt (x.pats.drop (k+1)) (k+1+1) with | some i=>some i | none=>rest x):=show shape x=_ from by rw[HG.out,HD.out,zaE,aI];rfl
   have ap:Below wr.heap.size wr w1:=(B1 _).trans (I.mono (by simp));go_roundw
   case rel=>exact ⟨k+1,by omega,by go_num,G.out,af.below ap,hb.trans (ap.mono hb.size)⟩
   case measure=>simp[intOf];omega
  have HR:Hid (shape x=rest x):=show shape x=rest x from by rw[HG.out,List.drop_eq_nil_of_le (by omega)];rfl
  have aN:=zcp af;obtain ⟨q0,q1,q2,q3,q4⟩:=af;obtain ⟨ax,aY⟩:=zb0 (es:=x.exprs) (l:=x.exprs) (Spans.nil x.exprs) rfl;have ba:=ax.1;have HS:=zcp ax;clear ax aY;by_cases E:(zat [] x.exprs).length=x.exprs.length
  ·have HF:Hid (rest x=zbP (zat [] x.exprs) x.acts 0 1):=show rest x=_ from by unfold rest;rw[if_neg (by omega)]
   have aL:decide ((zat [] x.exprs).length=x.exprs.length)=true:=decide_eq_true E;have aV:=zcp E;clear E;go_wp2_with (go_at_call 98;refine (zjM x a_pats c_pats a_exprs c_exprs a_acts c_acts _ (O.below hb) (by omega) (az.mono zbH (Ex.mono zbH)) ho).mono ?_;rintro e w1 ⟨⟨al,aB,rfl,au⟩,I⟩;have r4:=zaa I q4);have aJ:=aN.out.below I;have aT:Below w.heap.size w w1:=hb.trans (I.mono hb.size);clear q0 q1 q2 q3 q4 r4 aN I aL
   go_loopw [7,59] (fun nv i aD=>∃ (k nk:Nat),k<=x.acts.length/\i=.int .i64 k/\nv=.int .i64 (nk:Int)/\nk<=60/\shape x=zbP (zat [] x.exprs) (x.acts.drop k) nk (k+1)/\zcK aD w.heap.size x a_pats c_pats a_exprs c_exprs a_acts c_acts/\zek none aD al (zat [] x.exprs)/\Below w.heap.size w aD) (fun _ i _=>x.acts.length - (intOf i).toNat)
   case atStart=>exact ⟨0,0,by omega,rfl,rfl,by omega,by rw[HR.out,HF.out];rfl,aJ,au,aT⟩
   case round=>
    obtain ⟨k,nk,hk,rfl,rfl,aR,hG,X,ae,Z⟩:=hrel;have aF:=zcp hG;have aO:=zcp X;clear hG;by_cases aK:k<x.acts.length
    ·obtain ⟨y,aA⟩:∃ y,x.acts[k]?=some y:=⟨x.acts[k],by simp[aK]⟩
     obtain ⟨b,o,a_args,c_args,rfl,hq,c0,c1,c2,c3,ab⟩:=(aq.below Z).get aA;have ar:=aP.2 y (List.mem_of_getElem? aA);have HD:Hid (x.acts.drop k=y :: x.acts.drop (k+1)):=zaU aA;have B1:=zHB wr;clear X
     cases ak:gAc (zat [] x.exprs) y nk with
     | none=>
      have G:Hid (shape x=some (k+1)):=show shape x=_ from by rw[aF.out,HD.out,zcL,ak]
      have ag:=zcp (fun w h1 h2=>zgm y a_args c_args al aB (zat [] x.exprs) nk (q:=q) (q':=none) w h1 h2 (by omega) (Nat.le_trans ar.1 zbH) ar.2 aR);rw[ak]at ag;go_wp2_with (go_at_call 99;refine (ag.out _ (ab.below (B1 _)) (ae.below (B1 _))).mono ?_;rintro e w3 ⟨⟨v,rfl,aM⟩,aC⟩);have aj:Below wr.heap.size wr w3:=(B1 _).trans (aC.mono (by simp));refine bodyPost_ret (v:=.tuple #[.int .i64 ((k:Int)+1),.bool false]) (by simp[results,Tryz.results51,go_sem]) rfl ⟨⟨(k:Int)+1,by rw[G.out];rfl,fun i h=>(by rw[G.out]at h;injection h with h;subst h;simp)⟩,Z.trans (aj.mono Z.size)⟩
     | some aE=>
      have G:Hid (shape x=zbP (zat [] x.exprs) (x.acts.drop (k+1)) aE (k+1+1)):=show shape x=_ from by rw[aF.out,HD.out,zcL,ak]
      have ag:=zcp (fun w h1 h2=>zgm y a_args c_args al aB (zat [] x.exprs) nk (q:=q) (q':=none) w h1 h2 (by omega) (Nat.le_trans ar.1 zbH) ar.2 aR);rw[ak]at ag;go_wp2_with (go_at_call 99;refine (ag.out _ (ab.below (B1 _)) (ae.below (B1 _))).mono ?_;rintro e w3 ⟨⟨v,rfl,aM⟩,aC⟩;obtain ⟨rfl,aS⟩:=aM aE rfl);have aj:Below wr.heap.size wr w3:=(B1 _).trans (aC.mono (by simp));go_roundw
      case rel=>exact ⟨k+1,aE,by omega,by go_num,rfl,aS,G.out,aO.out.below aj,ae.below aj,Z.trans (aj.mono Z.size)⟩
      case measure=>simp[intOf];omega
    have e0:x.acts.drop k=[]:=List.drop_eq_nil_of_le (by omega);obtain ⟨q0,q1,q2,q3,q4⟩:=X;have a6:k=x.acts.length:=by omega
    have HE:Hid (shape x=if nk=(zat [] x.exprs).length then none else some (k+1)):=show shape x=_ from by rw[aF.out,e0];rfl
    go_wp2;by_cases U:nk=(zat [] x.exprs).length
    ·refine bodyPost_ret (v:=.tuple #[.int .i64 ((x.acts.length:Int)+1),.bool true]) (by simp[results,Tryz.results51,go_sem,U]) rfl ⟨⟨_,by rw[HE.out,if_pos U];rfl,fun i h=>(by rw[HE.out,if_pos U]at h;cases h)⟩,Z⟩
    have a1:((nk:Int)==((zat [] x.exprs).length:Int))=false:=by simp;omega
    refine bodyPost_ret (v:=.tuple #[.int .i64 ((x.acts.length:Int)+1),.bool false]) (by simp[results,Tryz.results51,go_sem];omega) rfl ⟨⟨_,by rw[HE.out,if_neg U];rfl,fun i h=>(by rw[HE.out,if_neg U]at h;injection h with h;subst h;simp;omega)⟩,Z⟩
  have HF:Hid (rest x=some ((zat [] x.exprs).length+1)):=show rest x=_ from by unfold rest;rw[if_pos (by omega)]
  have aL:decide ((zat [] x.exprs).length=x.exprs.length)=false:=decide_eq_false E;have aV:=zcp E;clear E;go_wp2_with (go_at_call 98;refine (zjM x a_pats c_pats a_exprs c_exprs a_acts c_acts _ (O.below hb) (by omega) (az.mono zbH (Ex.mono zbH)) ho).mono ?_;rintro e w1 ⟨⟨al,aB,rfl,au⟩,I⟩);refine bodyPost_ret (v:=.tuple #[.int .i64 (((zat [] x.exprs).length:Int)+1),.bool false]) (by simp[results,Tryz.results51,go_sem]) rfl ⟨⟨((zat [] x.exprs).length:Int)+1,by rw[HR.out,HF.out];rfl,fun i h=>(by rw[HR.out,HF.out]at h;injection h with h;subst h;simp)⟩,hb.trans (I.mono hb.size)⟩
end Go.Proofs.YtjjjagepnnbebaaGreatDoor
namespace Go.Proofs.YtjjjagepnnbebaaGreatDoor
open Go.RowKit Go.Maps
attribute [local go_sem ↓] Go.wp_at_zero Go.wp_at_succ
def zko(v:Value):Option (DataW Unit × List MemPlace):=
 match v with
 | .agg a=>if a.size=0 then some (.lit (.bool true),[]) else none
 | _=>none
theorem zm1{v:Value}{z:DataW Unit × List MemPlace}(h:zko v=some z):v=.agg #[]:=by
 unfold zko at h;split at h
 ·rename_i a;split at h
  ·rename_i E;rw[Array.eq_empty_of_size_eq_zero E]
  ·cases h
 cases h
theorem lawS:Keyed Tryz.prog 9:=string_keyed Tryz.underlying9
def NInv(known:List ByteArray)(D:DataW Unit):Prop:=∀ s:ByteArray,s.size<=maxLen->has D (.string s.data.toList)=memB s known
theorem NInv.start:NInv [] (.map []):=fun _ _=>rfl
theorem zoq(s v:ByteArray)(known:List ByteArray):memB s (known ++ [v])=(memB s known || decide (v=s)):=by
 simp[memB,List.any_append]
theorem NInv.put{known:List ByteArray}{D:DataW Unit}{v:ByteArray}(h:NInv known D)(hm:IsMap D)(d:DataW Unit):NInv (known ++ [v]) (D.put (.string v.data.toList) d):=by
 intro s hs;rw[zoq];by_cases he:v=s
 ·subst he;rw[has_put_same hm (k:=.string v.data.toList) trivial d,decide_eq_true rfl,Bool.or_true]
 rw[has_put_other (fun e=>he (by injection e with e;exact (Go.WideShapes.bytes_inj e).symm)) d,h s hs,decide_eq_false he,Bool.or_false]
abbrev NMap(w:World)(b n:Nat)(D:DataW Unit):Prop:=w.ownsMap Tryz.prog 9 zko b n D
theorem zsx(w:World):(zeroValue 205).run Tryz.prog w=.ok (.agg #[]) w:=by kernel_rfl
theorem zon{w:World}{b n:Nat}{D:DataW Unit}{known:List ByteArray}(h:NMap w b n D)(G:NInv known D){s:ByteArray}(hs:s.size<=maxLen) :
  (Instr.lookup 158 (.map (some b)) (.string s) true).run Tryz.prog w=.ok (.tuple #[.agg #[],.bool (memB s known)]) w:=by
 obtain ⟨v,ps,E,hv⟩:=h.look_ok lawS (t:=158) Tryz.underlying158 (zsx w) (show zko (.agg #[])=some (.lit (.bool true),[]) from rfl) (Go.WideMaps.keyOf_string_mk Tryz.underlying9 hs);rw[E,G s hs,zm1 hv]
theorem zpH(b n:Nat)(D:DataW Unit)(known:List ByteArray)(s:ByteArray)(w:World)(h:NMap w b n D)(E:NInv known D)(hs:s.size<=maxLen) :
  Calls Tryz.prog 146 #[.map (some b),.string s] w fun e w'=>e=.returned (.bool (memB s known))/\Below w.heap.size w w':=by
 have hl:=zon h E hs;go_enter Tryz.func146,Tryz.ntmps146;go_wp2;go_ret;exact ⟨rfl,(Below.refl _ _).alloc (Nat.le_refl _) _⟩
theorem ziE(b n:Nat)(D:DataW Unit)(known:List ByteArray)(s:ByteArray)(E:NInv known D)(hs:s.size<=maxLen):Hid (∀ w,NMap w b n D->Calls Tryz.prog 146 #[.map (some b),.string s] w fun e w'=>e=.returned (.bool (memB s known))/\Below w.heap.size w w'):=
 fun w h=>zpH b n D known s w h E hs
theorem zmR(b n:Nat)(D:DataW Unit)(known:List ByteArray)(a:Option Addr)(c:Nat)(es:List Ex)(w:World){q:Option Nat}(h:NMap w b n D)(hI:NInv known D)(hv:zbG q w a es)(hl:es.length<=1048576)(hs:∀ e∈es,e.var.size<=maxLen) :
  Calls Tryz.prog 101 #[.map (some b),.slice a es.length c] w fun e w'=>e=.returned (.bool (es.all (zbD known)))/\Below w.heap.size w w':=by
 go_enter Tryz.func101,Tryz.ntmps101;go_wp2
 go_loopw [9] (fun i wr=>∃ (k:Nat),k<=es.length/\i=.int .i64 k/\es.all (zbD known)=(es.drop k).all (zbD known)/\Below w.heap.size w wr) (fun i _=>es.length - (intOf i).toNat)
 case atStart=>exact ⟨0,by omega,rfl,rfl,Below.refl _ _⟩
 case round=>
  obtain ⟨k,hk,rfl,hG,hb⟩:=hrel;have O:Hid (es.all (zbD known)=(es.drop k).all (zbD known)):=hG;clear hG;by_cases ad:k<es.length
  ·obtain ⟨e,E⟩:∃ e,es[k]?=some e:=⟨es[k],by simp[ad]⟩
   obtain ⟨b',o,rfl,hq,c0,c1,c2,c3,c4,c5,c6,c7⟩:=(hv.below hb).get E;have X:Hid (es.drop k=e :: es.drop (k+1)):=zaU E;have ab:=hs e (List.mem_of_getElem? E);have Z:=h.lt;have HM:Hid (NMap wr b n D):=show NMap wr b n D from by
    obtain ⟨m1,m2,m3,m4⟩:=h;exact ⟨m1,m2,(hb.block b Z).trans m3,m4⟩
   have I:∀ o,Below w.heap.size w (wr.alloc o):=fun o=>hb.alloc hb.size _
   cases k1:(e.kind==1)
   ·have U:Hid (zbD known e=true):=show zbD known e=true from by simp[zbD,k1]
    go_wp2;go_roundw
    case rel=>exact ⟨k+1,by omega,by go_num,by rw[O.out,X.out,List.all_cons,U.out];rfl,I _⟩
    case measure=>simp[intOf];omega
   have U:Hid (zbD known e=memB e.var known):=show zbD known e=_ from by simp[zbD,k1]
   cases hm:memB e.var known
   all_goals
    have hH:=ziE b n D known e.var hI ab;rw[hm]at hH;go_wp2_with (go_at_call 146;refine (hH.out _ (HM.out.alloc _)).mono ?_;rintro e' w1 ⟨rfl,G⟩)
   ·go_ret;exact ⟨zah (by rw[O.out,X.out,List.all_cons,U.out,hm];rfl),(I _).trans (G.mono (I _).size)⟩
   go_roundw
   case rel=>exact ⟨k+1,by omega,by go_num,by rw[O.out,X.out,List.all_cons,U.out,hm];rfl,(I _).trans (G.mono (I _).size)⟩
   case measure=>simp[intOf];omega
  go_wp2;go_ret;exact ⟨zah (by rw[O.out,List.drop_eq_nil_of_le (by omega)];rfl),hb⟩
theorem zn1(b n:Nat)(D:DataW Unit)(w:World)(h:NMap w b n D) :
  Calls Tryz.prog 145 #[.map (some b)] w fun e w'=>e=.returned (.map (some w.heap.size))/\NMap w' w.heap.size n D/\Below w.heap.size w w':=by
 obtain ⟨es,E,hb,F,hs,G⟩:=h;have I:=fun w=>run_eql_map_nil_sl (P:=Tryz.prog) w 158 _ _ (some b) Tryz.underlying158;go_enter Tryz.func145,Tryz.ntmps145;go_wp2;rw[run_callFunc_extern Tryz.func166 (by kernel_rfl) (by kernel_rfl) (by kernel_rfl) (e:=Extern.MapsClone.clone) (by kernel_rfl),run_maps_clone_sl w 158 hb];simp only[Result.andThen];rw[Oper.upon_value];go_wp2;rw[run_typeAssert_map_sl _ 158 _ _ _ _ Tryz.underlying158];simp only[Result.andThen];rw[Oper.upon_value];go_wp2;go_ret;exact ⟨rfl,⟨es,E,(MapKept.heap_alloc w _).1,F,hs,G⟩,(Below.refl _ w).alloc (Nat.le_refl _) _⟩
theorem zbl(t:Tm)(r:List Tm)(here:List ByteArray):zaz (t :: r) here=if asks t && !memB t.var here then none else zaz r (if t.kind==2 then here ++ [t.var] else here):=rfl
theorem za9{p:Prop}(h:p):Hid p:=h
theorem zpW{w w':World}{b n:Nat}{D:DataW Unit}(h:NMap w b n D)(hb:Below w.heap.size w w'):NMap w' b n D:=by
 have hl:=h.lt;obtain ⟨es,E,h1,h2⟩:=h;exact ⟨es,E,(hb.block b hl).trans h1,h2⟩
theorem zhG{w w':World}{m b o:Nat}(h:w.grownBy w' (some m))(E:b≠m)(hl:b<w.heap.size):w'.cell? ⟨b,o,none⟩=w.cell? ⟨b,o,none⟩:=by
 unfold World.cell?;rw[h.block b hl (by intro e;first | exact E e | (injection e with e;first | exact E e | exact E e.symm))]
theorem znT(x:Pt)(a:Option Addr)(c b n:Nat)(D:DataW Unit)(known:List ByteArray){q:Option Nat}(w0 w:World)(ak:Below w0.heap.size w0 w)(hv:zfP q w0 a x.terms)(hs:zb3 Tm.le maxLen x.terms)(hl:x.terms.length<=1048576)(O:NMap w b n D)(hI:NInv known D)(Z:w0.heap.size<=b)(hn:n<=1048576)(ah:x.neg=false) :
  Calls Tryz.prog 100 #[.agg #[.bool x.neg,.string x.cls,.slice a x.terms.length c],.map (some b)] w fun e w'=>
   e=.returned (.bool (zaz x.terms known).isSome)/\Below b w w'/\∀ here,zaz x.terms known=some here->∃ G X,G<=n+x.terms.length/\NMap w' b G X/\NInv here X:=by
 have au:=O.lt;rw[ah];go_enter Tryz.func100,Tryz.ntmps100;go_wp2
 go_loopw [14] (fun i wr=>∃ (k G:Nat) (here:List ByteArray) (X:DataW Unit),k<=x.terms.length/\i=.int .i64 k/\zaz x.terms known=zaz (x.terms.drop k) here/\G<=n+k/\NMap wr (b) G X/\NInv here X/\Below (b) w wr) (fun i _=>x.terms.length - (intOf i).toNat)
 case atStart=>exact ⟨0,n,known,D,by omega,rfl,rfl,by omega,O.alloc _,hI,(Below.refl _ _).alloc (by omega) _⟩
 case round=>
  obtain ⟨k,G,here,X,hk,rfl,hG,aw,hown,I,hb⟩:=hrel;have HG:=za9 hG;clear hG;have ax:=hown.lt;by_cases ar:k<x.terms.length
  ·obtain ⟨t,ae⟩:∃ t,x.terms[k]?=some t:=⟨x.terms[k],by simp[ar]⟩
   obtain ⟨b',o,rfl,hq,c0,c1,c2,c3,c4,c5⟩:=(hv.below (ak.trans (hb.mono (by omega)))).get ae;have af:=(hs.2 t (List.mem_of_getElem? ae)).1;have HD:Hid (x.terms.drop k=t :: x.terms.drop (k+1)):=zaU ae;have E:∀ o,Below (b) w (wr.alloc o):=fun o=>hb.alloc (by have:=hb.size;omega) _;have ad:∀ o,NMap (wr.alloc o) (b) G X:=fun o=>hown.alloc o;by_cases k2:t.kind=2
   ·have U:Hid (zaz x.terms known=zaz (x.terms.drop (k+1)) (here ++ [t.var])):=show zaz x.terms known=_ from by rw[HG.out,HD.out,zbl];simp[asks,k2]
    have ap:=I.put (v:=t.var) hown.isMap (.lit (.bool true));obtain ⟨w2,ag,aj,ab⟩:=(hown.alloc (.cells #[.int .i64 2,.int .i64 t.op,.string t.var,.int .i64 t.val.kind,.int .i64 t.val.num,.string t.val.sym] 95)).update lawS (t:=158) Tryz.underlying158 (by unfold maxLen;omega) (Go.WideMaps.keyOf_string_mk Tryz.underlying9 af) (show zko (.agg #[])=some (.lit (.bool true),[]) from rfl);have al:=za9 aj;have ay:=za9 ab;have d0:w2.cell? ⟨wr.heap.size,0,none⟩=some (.int .i64 2):=by
     rw[zhG ab (by omega) (by simp)];simp[go_sem]
    have aq:=E (.cells #[.int .i64 2,.int .i64 t.op,.string t.var,.int .i64 t.val.kind,.int .i64 t.val.num,.string t.val.sym] 95);have ao:Below (b) w w2:=aq.grown ab (by have:=hb.size;simp;omega) (fun j hj=>by cases hj;omega);clear aj ab ad E;rw[k2]at c0;go_wp2;clear ag;go_roundw
    case rel=>exact ⟨k+1,G+1,_,_,by omega,by go_num,U.out,by omega,al.out,ap,ao⟩
    case measure=>simp[intOf];omega
   by_cases k3:t.kind=3/\t.var.toList.isEmpty=false
   ·obtain ⟨k3,v0⟩:=k3;have hH:=ziE (b) G X here t.var I af
    cases hm:memB t.var here
    all_goals
     rw[hm]at hH;go_wp2_with (go_at_call 146;refine (hH.out _ (ad _)).mono ?_;rintro e' w1 ⟨rfl,Z⟩)
    ·have U:Hid (zaz x.terms known=none):=show zaz x.terms known=none from by rw[HG.out,HD.out,zbl];simp[asks,k3,isE,hm];intro h;simp[h]at v0
     go_ret;exact ⟨zah (by rw[U.out];rfl),(E _).trans (Z.mono (by simp;omega)),fun h e=>(by rw[U.out]at e;cases e)⟩
    have U:Hid (zaz x.terms known=zaz (x.terms.drop (k+1)) here):=show zaz x.terms known=_ from by rw[HG.out,HD.out,zbl];simp[k3,hm]
    go_roundw
    case rel=>exact ⟨k+1,G,_,_,by omega,by go_num,U.out,by omega,zpW (ad _) Z,I,(E _).trans (Z.mono (by have:=(E default).size;have:=hb.size;simp;omega))⟩
    case measure=>simp[intOf];omega
   have U:Hid (zaz x.terms known=zaz (x.terms.drop (k+1)) here):=show zaz x.terms known=_ from by
    have ha:asks t=false:=by
     unfold asks isE;by_cases h3:t.kind=3
     ·have:t.var.toList.isEmpty=true:=by cases h:t.var.toList.isEmpty <;> simp_all
      simp[this]
     simp[h3]
    rw[HG.out,HD.out,zbl,ha];simp[k2]
   by_cases h3:t.kind=3
   focus
    have az:t.var.toList.isEmpty=true:=by cases h:t.var.toList.isEmpty <;> simp_all
   rotate_left
   rotate_left
   all_goals
    clear k3;go_wp2;go_roundw
    case rel=>exact ⟨k+1,G,_,_,by omega,by go_num,U.out,by omega,ad _,I,E _⟩
    case measure=>simp[intOf];omega
  have U:Hid (zaz x.terms known=some here):=show zaz x.terms known=_ from by
   rw[HG.out,List.drop_eq_nil_of_le (by omega)];rfl
  go_wp2;go_ret;exact ⟨zah (by rw[U.out];rfl),hb,fun h e=>(by rw[U.out]at e;injection e with e;subst e;exact ⟨G,X,by omega,hown,I⟩)⟩
theorem zns(x:Pt)(a:Option Addr)(c b n:Nat)(D:DataW Unit)(known:List ByteArray){q:Option Nat}(w0 w:World)(ah:Below w0.heap.size w0 w)(hv:zfP q w0 a x.terms)(hs:zb3 Tm.le maxLen x.terms)(hl:x.terms.length<=1048576)(E:NMap w b n D)(hI:NInv known D)(hn:n<=1048576)(al:x.neg=true) :
  Calls Tryz.prog 100 #[.agg #[.bool x.neg,.string x.cls,.slice a x.terms.length c],.map (some b)] w fun e w'=>
   e=.returned (.bool (zaz x.terms known).isSome)/\Below w.heap.size w w':=by
 have aq:=E.lt;rw[al];go_enter Tryz.func100,Tryz.ntmps100;have az:=ah.size;go_wp2_with (go_at_call 145;refine (zn1 b n D _ (E.alloc _)).mono ?_;rintro e w1 ⟨rfl,af,ae⟩;have q2:w1.cell? ⟨w.heap.size,2,none⟩=some (.slice a x.terms.length c):=zaa ae (by simp[go_sem]));have ak:NMap w1 (w.heap.size+1) n D:=by simpa using af
 have ap:Below w.heap.size w w1:=((Below.refl _ _).alloc (Nat.le_refl _) _).trans (ae.mono (by simp));clear af ae q2 aq E
 go_loopw [14] (fun i wr=>∃ (k Z:Nat) (here:List ByteArray) (D':DataW Unit),k<=x.terms.length/\i=.int .i64 k/\zaz x.terms known=zaz (x.terms.drop k) here/\Z<=n+k/\NMap wr (w.heap.size+1) Z D'/\NInv here D'/\Below (w.heap.size) w wr) (fun i _=>x.terms.length - (intOf i).toNat)
 case atStart=>exact ⟨0,n,known,D,by omega,rfl,rfl,by omega,ak,hI,ap⟩
 case round=>
  obtain ⟨k,Z,here,D',hk,rfl,hG,aA,hown,I,hb⟩:=hrel;have HG:=za9 hG;clear hG;have aB:=hown.lt;by_cases ay:k<x.terms.length
  ·obtain ⟨t,ad⟩:∃ t,x.terms[k]?=some t:=⟨x.terms[k],by simp[ay]⟩
   obtain ⟨b',o,rfl,hq,c0,c1,c2,c3,c4,c5⟩:=(hv.below (ah.trans (hb.mono (by omega)))).get ad;have ag:=(hs.2 t (List.mem_of_getElem? ad)).1;have HD:Hid (x.terms.drop k=t :: x.terms.drop (k+1)):=zaU ad;have G:∀ o,Below (w.heap.size) w (wr.alloc o):=fun o=>hb.alloc (by have:=hb.size;omega) _;have U:∀ o,NMap (wr.alloc o) (w.heap.size+1) Z D':=fun o=>hown.alloc o;by_cases k2:t.kind=2
   ·have X:Hid (zaz x.terms known=zaz (x.terms.drop (k+1)) (here ++ [t.var])):=show zaz x.terms known=_ from by rw[HG.out,HD.out,zbl];simp[asks,k2]
    have aw:=I.put (v:=t.var) hown.isMap (.lit (.bool true));obtain ⟨w2,aj,ao,O⟩:=(hown.alloc (.cells #[.int .i64 2,.int .i64 t.op,.string t.var,.int .i64 t.val.kind,.int .i64 t.val.num,.string t.val.sym] 95)).update lawS (t:=158) Tryz.underlying158 (by unfold maxLen;omega) (Go.WideMaps.keyOf_string_mk Tryz.underlying9 ag) (show zko (.agg #[])=some (.lit (.bool true),[]) from rfl);have ar:=za9 ao;have aC:=za9 O;have d0:w2.cell? ⟨wr.heap.size,0,none⟩=some (.int .i64 2):=by
     rw[zhG O (by omega) (by simp)];simp[go_sem]
    have ax:=G (.cells #[.int .i64 2,.int .i64 t.op,.string t.var,.int .i64 t.val.kind,.int .i64 t.val.num,.string t.val.sym] 95);have au:Below (w.heap.size) w w2:=ax.grown O (by have:=hb.size;simp;omega) (fun j hj=>by cases hj;omega);clear ao O U G;rw[k2]at c0;go_wp2;clear aj;go_roundw
    case rel=>exact ⟨k+1,Z+1,_,_,by omega,by go_num,X.out,by omega,ar.out,aw,au⟩
    case measure=>simp[intOf];omega
   by_cases k3:t.kind=3/\t.var.toList.isEmpty=false
   ·obtain ⟨k3,v0⟩:=k3;have hH:=ziE (w.heap.size+1) Z D' here t.var I ag
    cases hm:memB t.var here
    all_goals
     rw[hm]at hH;go_wp2_with (go_at_call 146;refine (hH.out _ (U _)).mono ?_;rintro e' w1 ⟨rfl,ab⟩)
    ·have X:Hid (zaz x.terms known=none):=show zaz x.terms known=none from by rw[HG.out,HD.out,zbl];simp[asks,k3,isE,hm];intro h;simp[h]at v0
     go_ret;exact ⟨zah (by rw[X.out];rfl),(G _).trans (ab.mono (by simp;omega))⟩
    have X:Hid (zaz x.terms known=zaz (x.terms.drop (k+1)) here):=show zaz x.terms known=_ from by rw[HG.out,HD.out,zbl];simp[k3,hm]
    go_roundw
    case rel=>exact ⟨k+1,Z,_,_,by omega,by go_num,X.out,by omega,zpW (U _) ab,I,(G _).trans (ab.mono (by have:=(G default).size;have:=hb.size;simp;omega))⟩
    case measure=>simp[intOf];omega
   have X:Hid (zaz x.terms known=zaz (x.terms.drop (k+1)) here):=show zaz x.terms known=_ from by
    have ha:asks t=false:=by
     unfold asks isE;by_cases h3:t.kind=3
     ·have:t.var.toList.isEmpty=true:=by cases h:t.var.toList.isEmpty <;> simp_all
      simp[this]
     simp[h3]
    rw[HG.out,HD.out,zbl,ha];simp[k2]
   by_cases h3:t.kind=3
   focus
    have aD:t.var.toList.isEmpty=true:=by cases h:t.var.toList.isEmpty <;> simp_all
   rotate_left
   rotate_left
   all_goals
    clear k3;go_wp2;go_roundw
    case rel=>exact ⟨k+1,Z,_,_,by omega,by go_num,X.out,by omega,U _,I,G _⟩
    case measure=>simp[intOf];omega
  have X:Hid (zaz x.terms known=some here):=show zaz x.terms known=_ from by
   rw[HG.out,List.drop_eq_nil_of_le (by omega)];rfl
  go_wp2;go_ret;exact ⟨zah (by rw[X.out];rfl),hb⟩
theorem zcK.belowB{w w':World}{b B:Nat}{x:Ru}{a_pats:Option Addr}{c_pats:Nat}{a_exprs:Option Addr}{c_exprs:Nat}{a_acts:Option Addr}{c_acts:Nat}(h:zcK w b x a_pats c_pats a_exprs c_exprs a_acts c_acts)(hb:Below B w w')(hB:b<B):zcK w' b x a_pats c_pats a_exprs c_exprs a_acts c_acts:=by
 obtain ⟨G,h1,h2,h3,E⟩:=h;exact ⟨(hb.cell (p:=⟨b,0,none⟩) hB).trans G,(hb.cell (p:=⟨b,1,none⟩) hB).trans h1,(hb.cell (p:=⟨b,2,none⟩) hB).trans h2,(hb.cell (p:=⟨b,3,none⟩) hB).trans h3,(hb.cell (p:=⟨b,4,none⟩) hB).trans E⟩
theorem zct(p:Pt)(r:List Pt)(known:List ByteArray)(k:Nat):zbO (p :: r) known k=match zaz p.terms known with | none=>.inl k | some here=>zbO r (if p.neg then known else here) (k+1):=rfl
def zeG(x:Ru)(known:List ByteArray):Option Nat:=zaI (zcx x.exprs known) x.acts (x.pats.length+1)
theorem ziy(x:Ru):scope x=match zbO x.pats [] 1 with | .inl i=>some i | .inr known=>zeG x known:=by
 unfold scope zeG
 cases zbO x.pats [] 1 <;> rfl
theorem zht(x:Ru)(a_pats:Option Addr)(c_pats:Nat)(a_exprs:Option Addr)(c_exprs:Nat)(a_acts:Option Addr)(c_acts:Nat){q:Option Nat}(w:World)(al:zdv q w a_pats x.pats)(Z:zbG q w a_exprs x.exprs)(ao:zdY q w a_acts x.acts)(aK:x.le 1048576)(a6:x.pats.length<=6)(aI:∀ p∈x.pats,p.terms.length<=6)(aw:∀ y∈x.acts,∀ v∈y.args,0<=v/\v<(x.exprs.length:Int))(aU:x.exprs.length<=c_exprs)(aT:x.exprs.length<=60) :
  Calls Tryz.prog 53 #[.agg #[.string x.name,.int .i64 x.sal,.slice a_pats x.pats.length c_pats,.slice a_exprs x.exprs.length c_exprs,.slice a_acts x.acts.length c_acts]] w fun e w'=>e=.returned (.int .i64 (item0 (scope x)))/\Below w.heap.size w w':=by
 obtain ⟨aW,aJ,aB,aF⟩:=aK;have a8:=aB.1;have bd:=aF.1;obtain ⟨HH⟩:Nonempty (Hid (scope x=match zbO x.pats [] 1 with | .inl i=>some i | .inr known=>zeG x known)):=⟨ziy x⟩
 have aL:=fun w=>run_makeMap (P:=Tryz.prog) 158 w;go_enter Tryz.func53,Tryz.ntmps53;go_wp2;clear aL
 go_loopw [13] (fun i wr=>∃ (k n:Nat) (known:List ByteArray) (D:DataW Unit),k<=x.pats.length/\i=.int .i64 k/\zbO x.pats [] 1=zbO (x.pats.drop k) known (k+1)/\n<=6 * k/\NMap wr (w.heap.size+1) n D/\NInv known D/\zcK wr w.heap.size x a_pats c_pats a_exprs c_exprs a_acts c_acts/\Below w.heap.size w wr) (fun i _=>x.pats.length - (intOf i).toNat)
 case atStart=>
  refine ⟨0,0,[],.map [],by omega,rfl,rfl,by omega,?_,NInv.start,(zcK.made w 39 x a_pats c_pats a_exprs c_exprs a_acts c_acts).below ((Below.refl _ _).alloc (Nat.le_refl _) _),((Below.refl _ _).alloc (Nat.le_refl _) _).alloc (by simp) _⟩;have:=World.ownsMap_made (H:=Unit) (w.alloc (.cells #[.string x.name,.int .i64 x.sal,.slice a_pats x.pats.length c_pats,.slice a_exprs x.exprs.length c_exprs,.slice a_acts x.acts.length c_acts] 39)) Tryz.prog 9 zko;simpa using this
 case round=>
  obtain ⟨k,n,known,D,hk,rfl,hG,hn,hown,hI,U,hb⟩:=hrel;have HG:=za9 hG;have ad:=za9 U;have HM:=za9 hown;have aD:=hown.lt;clear hG hown;by_cases aQ:k<x.pats.length
  ·obtain ⟨p,ah⟩:∃ p,x.pats[k]?=some p:=⟨x.pats[k],by simp[aQ]⟩
   obtain ⟨b,o,a_terms,c_terms,rfl,hq,c0,c1,c2,ab⟩:=al.get ah;have aj:=aJ.2 p (List.mem_of_getElem? ah);have aV:=aI p (List.mem_of_getElem? ah);have d0:=zaa hb c0;have d1:=zaa hb c1;have d2:=zaa hb c2;have HD:Hid (x.pats.drop k=p :: x.pats.drop (k+1)):=zaU ah;have E:∀ o,Below w.heap.size w (wr.alloc o):=fun o=>hb.alloc hb.size _;clear c0 c1 c2 U
   cases af:p.neg
   ·have I:=za9 (fun w' h1 h2=>znT p a_terms c_terms (w.heap.size+1) n D known (q:=q) w w' h1 ab (aj.2.mono zbH (Tm.mono zbH)) aj.2.1 h2 hI (by omega) (by omega) af);rw[af]at d0 I
    cases hT:zaz p.terms known with
    | none=>
     rw[hT]at I;have HN:Hid (scope x=some (k+1)):=show scope x=_ from by rw[HH.out,HG.out,HD.out,zct,hT]
     go_wp2_with (go_at_call 100;refine (I.out _ (E _) (HM.out.alloc _)).mono ?_;rintro e w1 ⟨rfl,O,_⟩);go_ret;exact ⟨zcc (by rw[HN.out];simp[item0]),(E _).trans (O.mono (by omega))⟩
    | some here=>
     rw[hT]at I;have HN:Hid (zbO x.pats [] 1=zbO (x.pats.drop (k+1)) here (k+1+1)):=show zbO x.pats [] 1=_ from by rw[HG.out,HD.out,zct,hT,af];rfl
     go_wp2_with (go_at_call 100;refine (I.out _ (E _) (HM.out.alloc _)).mono ?_;rintro e w1 ⟨rfl,O,hh⟩);obtain ⟨n2,D2,aX,aA,aM⟩:=hh here rfl;go_roundw
     case rel=>exact ⟨k+1,n2,here,D2,by omega,by go_num,HN.out,by omega,aA,aM,(ad.out.below ((Below.refl _ _).alloc (Nat.le_refl _) _)).belowB O (by omega),(E _).trans (O.mono (by omega))⟩
     case measure=>simp[intOf];omega
   have I:=za9 (fun w' h1 h2=>zns p a_terms c_terms (w.heap.size+1) n D known (q:=q) w w' h1 ab (aj.2.mono zbH (Tm.mono zbH)) aj.2.1 h2 hI (by omega) af);rw[af]at d0 I
   cases hT:zaz p.terms known with
   | none=>
    rw[hT]at I;have HN:Hid (scope x=some (k+1)):=show scope x=_ from by rw[HH.out,HG.out,HD.out,zct,hT]
    go_wp2_with (go_at_call 100;refine (I.out _ (E _) (HM.out.alloc _)).mono ?_;rintro e w1 ⟨rfl,O⟩);go_ret;exact ⟨zcc (by rw[HN.out];simp[item0]),(E _).trans (O.mono (E _).size)⟩
   | some here=>
    rw[hT]at I;have HN:Hid (zbO x.pats [] 1=zbO (x.pats.drop (k+1)) known (k+1+1)):=show zbO x.pats [] 1=_ from by rw[HG.out,HD.out,zct,hT,af];rfl
    go_wp2_with (go_at_call 100;refine (I.out _ (E _) (HM.out.alloc _)).mono ?_;rintro e w1 ⟨rfl,O⟩);have aA:=zpW (HM.out.alloc _) O;go_roundw
    case rel=>exact ⟨k+1,n,known,D,by omega,by go_num,HN.out,by omega,aA,hI,(ad.out.below ((Below.refl _ _).alloc (Nat.le_refl _) _)).below O,(E _).trans (O.mono (E _).size)⟩
    case measure=>simp[intOf];omega
  have HN:Hid (scope x=zeG x known):=show scope x=_ from by rw[HH.out,HG.out,List.drop_eq_nil_of_le (by omega)];rfl
  obtain ⟨q0,q1,q2,q3,q4⟩:=U;go_wp2;clear q0 q1 q2 q3 q4
  go_loopw [28] (fun i ay=>∃ (k:Nat),k<=x.acts.length/\i=.int .i64 k/\zeG x known=zaI (zcx x.exprs known) (x.acts.drop k) (x.pats.length+1+k)/\NMap ay (w.heap.size+1) n D/\zcK ay w.heap.size x a_pats c_pats a_exprs c_exprs a_acts c_acts/\Below w.heap.size w ay) (fun i _=>x.acts.length - (intOf i).toNat)
  case atStart=>exact ⟨0,by omega,rfl,rfl,HM.out,ad.out,hb⟩
  case round=>
   clear HG ad HM hb hk hn aD;obtain ⟨k,hk,rfl,hG,hown,U,hb⟩:=hrel;have HG:=za9 hG;have ad:=za9 U;have HM:=za9 hown;have aD:=hown.lt;clear hG hown;by_cases aE:k<x.acts.length
   ·obtain ⟨y,ak⟩:∃ y,x.acts[k]?=some y:=⟨x.acts[k],by simp[aE]⟩
    obtain ⟨b,o,a_args,c_args,rfl,hq,c0,c1,c2,c3,ap⟩:=(ao.below hb).get ak;have aG:=aw y (List.mem_of_getElem? ak);have a1:=(aF.2 y (List.mem_of_getElem? ak)).2;have HD:Hid (x.acts.drop k=y :: x.acts.drop (k+1)):=zaU ak;have E:∀ o,Below w.heap.size w (wr.alloc o):=fun o=>hb.alloc hb.size _;have ae:=zHB wr;obtain ⟨q0,q1,q2,q3,q4⟩:=U;by_cases aC:y.args.length=0
    ·have HK:Hid (zcx x.exprs known y=true):=show zcx x.exprs known y=true from by simp[zcx,List.eq_nil_of_length_eq_zero aC]
     have HX:Hid (zeG x known=zaI (zcx x.exprs known) (x.acts.drop (k+1)) (x.pats.length+1+(k+1))):=show zeG x known=_ from by rw[HG.out,HD.out,zaE,HK.out];rfl
     have aO:decide (0<y.args.length)=false:=decide_eq_false (by omega);have bf:decide ((0:Int)<(y.args.length:Int))=false:=decide_eq_false (by omega);clear q0 q1 q2 q4;go_wp2
     go_quiet (fail)
     go_wp2;go_roundw
     case rel=>exact ⟨k+1,by omega,by go_num,HX.out,HM.out.alloc _,ad.out.below (za4 (ae _)),za4 (E _)⟩
     case measure=>simp[intOf];omega
    obtain ⟨G,ax⟩:∃ G,y.args.length=G+1:=⟨y.args.length - 1,by omega⟩
    obtain ⟨vl,az⟩:∃ v,y.args[G]?=some v:=⟨y.args[G]'(by omega),by simp⟩
    obtain ⟨aS,bh⟩:=aG vl (List.mem_of_getElem? az);obtain ⟨vn,rfl⟩:=Int.eq_ofNat_of_zero_le aS;have aP:vn<x.exprs.length:=by omega
    obtain ⟨ba,oa,ea,bb,ca⟩:=ap.get az;subst ea;obtain ⟨be,oe,ee,_⟩:=Z.get (List.getElem?_eq_getElem aP);subst ee;have HU:Hid (zcx x.exprs known y=(x.exprs.take (vn+1)).all (zbD known)):=show zcx x.exprs known y=_ from by
     have h1:y.args.isEmpty=false:=by
      cases h:y.args with
      | nil=>simp[h]at ax
      | cons v r=>rfl
     have h2:upTo y=vn+1:=by
      unfold upTo;rw[List.getLast?_eq_getElem?,ax,Nat.add_sub_cancel,az];rfl
     unfold zcx;rw[h1,h2];rfl
    have aH:(x.exprs.take (vn+1)).length=vn+1:=by simp;omega
    have ag:=za9 (fun w' (h1:NMap w' (w.heap.size+1) n D) (h2:Below w.heap.size w w')=>zmR (w.heap.size+1) n D known (some ⟨be,oe,none⟩) c_exprs (x.exprs.take (vn+1)) w' (q:=q) h1 hI (zbf.take (Z.below h2) (vn+1)) (by omega) (fun e he=>Nat.le_trans (aB.2 e (List.mem_of_mem_take he)).1 zbH));rw[aH]at ag;have z0:(0:Int)<=(vn:Int)+1:=by omega
    have z1:(vn:Int)+1<=(c_exprs:Int):=by omega
    have z2:(G:Int)<(G:Int)+1:=by omega
    have aR:G<=1048576:=by omega
    have a7:IntKind.i64.wrap ((G:Int)+1 - 1)=(G:Int):=by rw[show (G:Int)+1 - 1=(G:Int) by omega,IntKind.wrap_i64];omega
    have aZ:IntKind.i64.wrap (((G+1:Nat):Int) - 1)=(G:Int):=by rw[show ((G+1:Nat):Int) - 1=(G:Int) by omega,IntKind.wrap_i64];omega
    have aY:IntKind.i64.wrap (G:Int)=(G:Int):=by rw[IntKind.wrap_i64];omega
    have bc:IntKind.i64.wrap ((vn:Int)+1)=(vn:Int)+1:=by rw[IntKind.wrap_i64];omega
    have z3:(0:Int)<=(G:Int):=by omega
    have z4:(G:Int)<((G+1:Nat):Int):=by omega
    have z5:(vn:Int)+1<=(x.exprs.length:Int):=by omega
    have aN:vn<60:=by omega
    rw[ax]at c3;have aq:(wr.alloc (.cells #[.int .i64 y.kind,.int .i64 y.k,.string y.cls,.slice (some ⟨ba,oa,none⟩) (G+1) c_args] 73)).cell? ⟨ba,oa+G,none⟩=some (.int .i64 (vn:Int)):=zaa (ae _) ca;have au:(wr.alloc (.cells #[.int .i64 y.kind,.int .i64 y.k,.string y.cls,.slice (some ⟨ba,oa,none⟩) (G+1) c_args] 73)).cell? ⟨w.heap.size,3,none⟩=some (.slice (some ⟨be,oe,none⟩) x.exprs.length c_exprs):=zaa (ae _) q3;clear q0 q1 q4 ca aG aC;have aO:decide (0<G+1)=true:=decide_eq_true (by omega)
    cases ar:(x.exprs.take (vn+1)).all (zbD known)
    ·rw[ar]at ag HU;have HX:Hid (scope x=some (x.pats.length+1+k)):=show scope x=_ from by rw[HN.out,HG.out,HD.out,zaE,HU.out];rfl
     go_wp2;clear q3 c0 c1 c2 c3
     first
     | (go_region_held3 (fun w'=>w'.cell? ⟨w.heap.size,3,none⟩=some (.slice (some ⟨be,oe,none⟩) x.exprs.length c_exprs)/\w'.cell? ⟨wr.heap.size,3,none⟩=some (.slice (some ⟨ba,oa,none⟩) (G+1) c_args)/\w'.cell? ⟨ba,oa+G,none⟩=some (.int .i64 (vn:Int))) ((go_split_ands;refine ⟨?_,?_,?_⟩ <;> first | (simp[go_sem,aq,au];done) | exact zaa X (by assumption))) (first | (go_at_call 101;refine (ag.out _ (HM.out.alloc _).drew ((E _).drew)).mono ?_;rintro e w' ⟨rfl,X⟩;have r2:=zaa X (zaa ((ae _).drew) q2)) | fail))
     | fail
     go_wp2;go_ret;exact ⟨zcc (by rw[HX.out];simp[item0];omega),(E _).drew.trans (X.mono (by have:=(E (.map #[] 0)).size;simp;omega))⟩
    rw[ar]at ag HU;have HX:Hid (zeG x known=zaI (zcx x.exprs known) (x.acts.drop (k+1)) (x.pats.length+1+(k+1))):=show zeG x known=_ from by rw[HG.out,HD.out,zaE,HU.out];rfl
    go_wp2;clear q3 c0 c1 c2 c3
    first
    | (go_region_held3 (fun w'=>w'.cell? ⟨w.heap.size,3,none⟩=some (.slice (some ⟨be,oe,none⟩) x.exprs.length c_exprs)/\w'.cell? ⟨wr.heap.size,3,none⟩=some (.slice (some ⟨ba,oa,none⟩) (G+1) c_args)/\w'.cell? ⟨ba,oa+G,none⟩=some (.int .i64 (vn:Int))) ((go_split_ands;refine ⟨?_,?_,?_⟩ <;> first | (simp[go_sem,aq,au];done) | exact zaa X (by assumption))) (first | (go_at_call 101;refine (ag.out _ (HM.out.alloc _).drew ((E _).drew)).mono ?_;rintro e w' ⟨rfl,X⟩;have r2:=zaa X (zaa ((ae _).drew) q2)) | fail))
    | fail
    go_wp2;go_roundw
    case rel=>exact ⟨k+1,by omega,by go_num,HX.out,zpW (HM.out.alloc _).drew X,(ad.out.below (ae _).drew).below X,(E _).drew.trans (X.mono (by have:=(E (.map #[] 0)).size;simp;omega))⟩
    case measure=>simp[intOf];omega
   go_wp2;go_ret;exact ⟨zcc (by rw[HN.out,HG.out,List.drop_eq_nil_of_le (by omega)];rfl),hb⟩
end Go.Proofs.YtjjjagepnnbebaaGreatDoor
namespace Go.Proofs.YtjjjagepnnbebaaGreatDoor
open Go.RowKit
attribute [local go_sem ↓] Go.wp_at_zero Go.wp_at_succ
theorem zdJ{a b:Int}{p:Int × Int}(h:p=(a,b)):Ending.returned (.tuple #[.int .i64 a,.int .i64 b])=.returned (.tuple #[.int .i64 p.1,.int .i64 p.2]):=by rw[h]
theorem zfa{α:Type}{f:α->Bool}:∀ {l:List α}{k:Nat},zaI f l k=none->∀ x∈l,f x=true
 | [],_,_,x,hx=>by simp at hx
 | y :: r,k,h,x,hx=>by
  rw[zaE]at h
  split at h
  ·rename_i hy
   rcases List.mem_cons.1 hx with rfl | hm
   ·exact hy
   ·exact zfa h x hm
  cases h
theorem zhO{S:List Sp}:∀ {l:List Int}{nx n:Nat},zaT S l nx=some n->∀ v∈l,0<=v/\v<(S.length:Int)
 | [],_,_,_,v,hv=>by simp at hv
 | x :: r,nx,n,h,v,hv=>by
  rw[zbg]at h
  split at h
  ·rename_i E
   simp only[Bool.and_eq_true,decide_eq_true_eq]at E
   rcases List.mem_cons.1 hv with rfl | hm
   ·exact ⟨E.1,E.2.1⟩
   ·exact zhO h v hm
  cases h
theorem zhj{S:List Sp}:∀ {l:List Ac}{nx k:Nat},zbP S l nx k=none->∀ y∈l,∀ v∈y.args,0<=v/\v<(S.length:Int)
 | [],_,_,_,y,hy,_,_=>by simp at hy
 | a :: r,nx,k,h,y,hy,v,hv=>by
  rw[zcL]at h
  cases hg:gAc S a nx with
  | none=>rw[hg]at h;cases h
  | some E=>
   rw[hg]at h
   rcases List.mem_cons.1 hy with rfl | hm
   ·unfold gAc at hg
    split at hg
    ·exact zhO hg v hv
    cases hg
   exact zhj h y hm v hv
theorem zfX{x:Ru}(h:shape x=none):x.pats.length<=6/\x.acts.length<=8/\x.exprs.length<=60/\(∀ p∈x.pats,p.terms.length<=6)/\(zat [] x.exprs).length=x.exprs.length/\∀ y∈x.acts,∀ v∈y.args,0<=v/\v<(x.exprs.length:Int):=by
 have O:zck x=true:=by
  cases U:zck x
  ·simp[shape,U]at h
  rfl
 rw[zi2 x O]at h;have E:=O;simp only[zck,Bool.and_eq_true,decide_eq_true_eq]at E
 cases hf:zaI gPt x.pats 1 with
 | some i=>rw[hf]at h;cases h
 | none=>
  rw[hf]at h;have I:rest x=none:=h;unfold rest at I;split at I
  ·cases I
  rename_i X;have Z:=(zb0 (es:=x.exprs) (l:=x.exprs) (Spans.nil x.exprs) rfl).1.1;have G:(zat [] x.exprs).length=x.exprs.length:=by omega
  refine ⟨E.2.1,E.2.2.1,E.2.2.2,fun p hp=>?_,G,fun y hy v hv=>?_⟩
  ·have:=zfa hf p hp;simp only[gPt,Bool.and_eq_true,decide_eq_true_eq]at this;exact this.2.1
  have:=zhj I y hy v hv;omega
theorem ziL{w:World}{b o:Nat}{x:Value}(h:w.cell? ⟨b,o,none⟩=some x):b<w.heap.size:=by
 by_cases hp:b<w.heap.size
 ·exact hp
 have:w.heap[b]?=none:=Array.getElem?_eq_none (by omega);simp[World.cell?,this]at h
theorem zeP{α:Type}{f:α->Bool}:∀ {l:List α}{k i:Nat},zaI f l k=some i->k<=i
 | [],_,_,h=>by cases h
 | x :: r,k,i,h=>by
  rw[zaE]at h
  split at h
  ·have:=zeP h
   omega
  injection h with h
  omega
theorem zjC:∀ {l:List Pt}{known:List ByteArray}{k i:Nat},zbO l known k=.inl i->k<=i
 | [],_,_,_,h=>by cases h
 | p :: r,known,k,i,h=>by
  rw[zct]at h
  split at h
  ·injection h with h
   omega
  have:=zjC h
  omega
theorem zoz{x:Ru}{i:Nat}(h:scope x=some i):1<=i:=by
 rw[ziy]at h;split at h
 ·rename_i j hj;injection h with h;have:=zjC hj;omega
 have:=zeP h;omega
theorem zpZ{x:Ru}{i:Nat}(h:refs x=some i):1<=i:=by
 have:=zeP h;omega
theorem znC(x:Ru)(a_pats:Option Addr)(c_pats:Nat)(a_exprs:Option Addr)(c_exprs:Nat)(a_acts:Option Addr)(c_acts:Nat)(au:Option Addr)(aE:Nat)(pre:List Ru){q:Option Nat}(w:World)(ap:zdD q w au pre)(G:zdv q w a_pats x.pats)(U:zbG q w a_exprs x.exprs)(O:zdY q w a_acts x.acts)(az:x.le 1048576)(ho:zg8 x.exprs)(ar:x.exprs.length<=c_exprs)(aN:pre.length<=16) :
  Calls Tryz.prog 19 #[.agg #[.string x.name,.int .i64 x.sal,.slice a_pats x.pats.length c_pats,.slice a_exprs x.exprs.length c_exprs,.slice a_acts x.acts.length c_acts],.slice au pre.length aE] w fun e w'=>
   e=.returned (.tuple #[.int .i64 (chk1 pre x).1,.int .i64 (chk1 pre x).2])/\Below w.heap.size w w':=by
 have ah:=az;obtain ⟨aK,aD,aM,aH⟩:=az;have B0:=zHB w;have ag:=za9 (fun w h1 h2 h3=>zoa x a_pats c_pats a_exprs c_exprs a_acts c_acts (q:=q) w h1 h2 h3 ah ho)
 cases I:shape x with
 | some i=>
  rw[I]at ag;have HC:Hid (chk1 pre x=(1,(i:Int))):=show chk1 pre x=_ from by unfold chk1;rw[I]
  go_enter Tryz.func19,Tryz.ntmps19;go_wp2_with (go_at_call 51;refine (ag.out _ (G.below (B0 _)) (U.below (B0 _)) (O.below (B0 _))).mono ?_;rintro e w1 ⟨⟨v,rfl,hv⟩,ae⟩;obtain rfl:=hv i rfl);refine bodyPost_ret (v:=.tuple #[.int .i64 (1),.int .i64 ((i:Int))]) (by simp[results,Tryz.results19,go_sem]) rfl ⟨zdJ HC.out,(B0 _).trans (ae.mono (by simp))⟩
 | none=>
  rw[I]at ag;obtain ⟨aF,aQ,aq,aC,aG,ak⟩:=zfX I;go_enter Tryz.func19,Tryz.ntmps19;go_wp2_with (go_at_call 51;refine (ag.out _ (G.below (B0 _)) (U.below (B0 _)) (O.below (B0 _))).mono ?_;rintro e w1 ⟨⟨v,rfl,_⟩,ae⟩);have aw:Below w.heap.size w w1:=(B0 _).trans (ae.mono (by simp));have aB:=(zcK.made w 39 x a_pats c_pats a_exprs c_exprs a_acts c_acts).below ae;clear ae
  go_loopw [23] (fun i wr=>∃ (k:Nat),k<=pre.length/\i=.int .i64 k/\pre.any (fun o=>decide (o.name=x.name))=(pre.drop k).any (fun o=>decide (o.name=x.name))/\zcK wr w.heap.size x a_pats c_pats a_exprs c_exprs a_acts c_acts/\Below w.heap.size w wr) (fun i _=>pre.length - (intOf i).toNat)
  case atStart=>exact ⟨0,by omega,rfl,rfl,aB,aw⟩
  case round=>
   clear aw aB;obtain ⟨k,hk,rfl,hG,af,hb⟩:=hrel;have HG:=za9 hG;have Z:=za9 af;clear hG;by_cases aI:k<pre.length
   ·obtain ⟨y,ay⟩:∃ y,pre[k]?=some y:=⟨pre[k],by simp[aI]⟩
    obtain ⟨b,o,a1,k1,a2,k2,a3,k3,rfl,hq,c0,c1,c2,c3,c4,_,_,_⟩:=(ap.below hb).get ay;have HD:Hid (pre.drop k=y :: pre.drop (k+1)):=zaU ay;have aA:∀ o,Below w.heap.size w (wr.alloc o):=fun o=>hb.alloc hb.size _;have ax:=zHB wr;obtain ⟨q0,q1,q2,q3,q4⟩:=af;have aP:w.heap.size<wr.heap.size:=ziL q0;have aO:∀ o,(wr.alloc o).cell? ⟨w.heap.size,0,none⟩=some (.string x.name):=fun o=>zaa (ax o) q0;clear q1 q2 q3 q4 q0
    cases e1:(y.name.toList==x.name.toList)
    ·have HX:Hid (pre.any (fun o=>decide (o.name=x.name))=(pre.drop (k+1)).any (fun o=>decide (o.name=x.name))):=show _=_ from by
      rw[zb1]at e1;rw[HG.out,HD.out,List.any_cons,e1];rfl
     go_wp2;go_roundw
     case rel=>exact ⟨k+1,by omega,by go_num,HX.out,Z.out.below (ax _),aA _⟩
     case measure=>simp[intOf];omega
    have HX:Hid (chk1 pre x=(2,0)):=show chk1 pre x=_ from by
     rw[zb1]at e1;unfold chk1;rw[I];simp only;rw[HG.out,HD.out,List.any_cons,e1];rfl
    go_wp2;refine bodyPost_ret (v:=.tuple #[.int .i64 (2),.int .i64 (0)]) (by simp[results,Tryz.results19,go_sem]) rfl ⟨zdJ HX.out,aA _⟩
   have HA:Hid (pre.any (fun o=>decide (o.name=x.name))=false):=show _=_ from by rw[HG.out,List.drop_eq_nil_of_le (by omega)];rfl
   have aL:positives x.pats<=x.pats.length:=List.countP_le_length;have ab:=za9 (fun w h1 h2 h3=>zht x a_pats c_pats a_exprs c_exprs a_acts c_acts (q:=q) w h1 h2 h3 ah aF aC ak ar aq);have ad:=za9 (fun w h1 h2=>zjw x a_pats c_pats a_exprs c_exprs a_acts c_acts (q:=q) w h1 h2 aD.1 aH.1);obtain ⟨q0,q1,q2,q3,q4⟩:=af;by_cases hr:1<=positives x.pats/\positives x.pats<=3
   ·have HC:Hid (chk1 pre x=match scope x with | some i=>(4,(i:Int)) | none=>match refs x with | some i=>(5,(i:Int)) | none=>(0,0)):=show chk1 pre x=_ from by
     unfold chk1;rw[I];simp only;rw[HA.out,if_neg (by decide),if_pos hr]
     cases scope x with
     | some i=>rfl
     | none=>cases refs x <;> rfl
    have r0:¬ (positives x.pats:Int)<1:=by omega
    have r1:¬ (3:Int)<(positives x.pats:Int):=by omega
    cases ao:scope x with
    | some i=>
     rw[ao]at ab HC;simp only[item0]at ab;have aJ:((i:Int) != 0)=true:=by
      have:=zoz ao;simp;omega
     go_wp2_with (first | (go_at_call 52;refine (zci x a_pats c_pats a_exprs c_exprs a_acts c_acts _ (G.below hb) (by omega)).mono ?_;rintro e w2 ⟨rfl,E⟩;obtain ⟨s0,s1,s2,s3,s4⟩:=Z.out.below E) | (go_at_call 53;refine (ab.out _ (G.below (hb.trans (E.mono hb.size))) (U.below (hb.trans (E.mono hb.size))) (O.below (hb.trans (E.mono hb.size)))).mono ?_;rintro e w3 ⟨rfl,X⟩;obtain ⟨t0,t1,t2,t3,t4⟩:=(Z.out.below E).below X) | fail);refine bodyPost_ret (v:=.tuple #[.int .i64 (4),.int .i64 ((i:Int))]) (by simp[results,Tryz.results19,go_sem]) rfl ⟨zdJ HC.out,((hb.trans (E.mono hb.size)).trans (X.mono (hb.trans (E.mono hb.size)).size))⟩
    | none=>
     rw[ao]at ab HC;simp only[item0]at ab
     cases al:refs x with
     | some i=>
      rw[al]at ad HC;simp only[item0]at ad;have aJ:((i:Int) != 0)=true:=by
       have:=zpZ al;simp;omega
      go_wp2_with (first | (go_at_call 52;refine (zci x a_pats c_pats a_exprs c_exprs a_acts c_acts _ (G.below hb) (by omega)).mono ?_;rintro e w2 ⟨rfl,E⟩;obtain ⟨s0,s1,s2,s3,s4⟩:=Z.out.below E) | (go_at_call 53;refine (ab.out _ (G.below (hb.trans (E.mono hb.size))) (U.below (hb.trans (E.mono hb.size))) (O.below (hb.trans (E.mono hb.size)))).mono ?_;rintro e w3 ⟨rfl,X⟩;obtain ⟨t0,t1,t2,t3,t4⟩:=(Z.out.below E).below X) | (go_at_call 54;refine (ad.out _ (G.below ((hb.trans (E.mono hb.size)).trans (X.mono (hb.trans (E.mono hb.size)).size))) (O.below ((hb.trans (E.mono hb.size)).trans (X.mono (hb.trans (E.mono hb.size)).size)))).mono ?_;rintro e w4 ⟨rfl,aj⟩) | fail);refine bodyPost_ret (v:=.tuple #[.int .i64 (5),.int .i64 ((i:Int))]) (by simp[results,Tryz.results19,go_sem]) rfl ⟨zdJ HC.out,(((hb.trans (E.mono hb.size)).trans (X.mono (hb.trans (E.mono hb.size)).size)).trans (aj.mono ((hb.trans (E.mono hb.size)).trans (X.mono (hb.trans (E.mono hb.size)).size)).size))⟩
     | none=>
      rw[al]at ad HC;simp only[item0]at ad;go_wp2_with (first | (go_at_call 52;refine (zci x a_pats c_pats a_exprs c_exprs a_acts c_acts _ (G.below hb) (by omega)).mono ?_;rintro e w2 ⟨rfl,E⟩;obtain ⟨s0,s1,s2,s3,s4⟩:=Z.out.below E) | (go_at_call 53;refine (ab.out _ (G.below (hb.trans (E.mono hb.size))) (U.below (hb.trans (E.mono hb.size))) (O.below (hb.trans (E.mono hb.size)))).mono ?_;rintro e w3 ⟨rfl,X⟩;obtain ⟨t0,t1,t2,t3,t4⟩:=(Z.out.below E).below X) | (go_at_call 54;refine (ad.out _ (G.below ((hb.trans (E.mono hb.size)).trans (X.mono (hb.trans (E.mono hb.size)).size))) (O.below ((hb.trans (E.mono hb.size)).trans (X.mono (hb.trans (E.mono hb.size)).size)))).mono ?_;rintro e w4 ⟨rfl,aj⟩) | fail);refine bodyPost_ret (v:=.tuple #[.int .i64 (0),.int .i64 (0)]) (by simp[results,Tryz.results19,go_sem]) rfl ⟨zdJ HC.out,(((hb.trans (E.mono hb.size)).trans (X.mono (hb.trans (E.mono hb.size)).size)).trans (aj.mono ((hb.trans (E.mono hb.size)).trans (X.mono (hb.trans (E.mono hb.size)).size)).size))⟩
   have HC:Hid (chk1 pre x=(3,0)):=show chk1 pre x=_ from by
    unfold chk1;rw[I];simp only;rw[HA.out,if_neg (by decide),if_neg hr]
   by_cases r0:(positives x.pats:Int)<1
   rotate_left
   focus
    have r1:(3:Int)<(positives x.pats:Int):=by omega
   rotate_left
   all_goals
    go_wp2_with (first | (go_at_call 52;refine (zci x a_pats c_pats a_exprs c_exprs a_acts c_acts _ (G.below hb) (by omega)).mono ?_;rintro e w2 ⟨rfl,E⟩;obtain ⟨s0,s1,s2,s3,s4⟩:=Z.out.below E) | fail);refine bodyPost_ret (v:=.tuple #[.int .i64 (3),.int .i64 (0)]) (by simp[results,Tryz.results19,go_sem]) rfl ⟨zdJ HC.out,(hb.trans (E.mono hb.size))⟩
theorem zb4(pre:List Ru)(r:Ru)(s:List Ru)(k:Nat):zd1 pre (r :: s) k=if (chk1 pre r).1=0 then zd1 (pre ++ [r]) s (k+1) else ((chk1 pre r).1,(k:Int),(chk1 pre r).2):=rfl
def ckV(p:Int × Int × Int):Value:=.agg #[.int .i64 p.1,.int .i64 p.2.1,.int .i64 p.2.2]
theorem zea(a:Option Addr)(c:Nat)(rs:List Ru){q:Option Nat}(w:World)(hv:zdD q w a rs)(hc:rs.length<=c)(ag:zb3 Ru.le 1048576 rs)(ho:∀ x∈rs,zg8 x.exprs) :
  Calls Tryz.prog 9 #[.slice a rs.length c] w fun e w'=>e=.returned (ckV (chk rs))/\Below w.heap.size w w':=by
 obtain ⟨hl,ag⟩:=ag;have B0:=zHB w;by_cases aA:16<rs.length
 ·have aj:(16:Int)<(rs.length:Int):=by omega
  have HC:Hid (chk rs=(1,0,0)):=show chk rs=_ from by unfold chk;rw[if_neg (by omega)]
  go_enter Tryz.func9,Tryz.ntmps9;go_wp2;refine bodyPost_ret (v:=.agg #[.int .i64 1,.int .i64 0,.int .i64 0]) (by simp[results,Tryz.results9,go_sem]) rfl ⟨by rw[HC.out];rfl,B0 _⟩
 have aj:¬ (16:Int)<(rs.length:Int):=by omega
 have HC:Hid (chk rs=zd1 [] rs 0):=show chk rs=_ from by unfold chk;rw[if_pos (by omega)]
 go_enter Tryz.func9,Tryz.ntmps9;go_wp2
 go_loopw [13] (fun i wr=>∃ (k:Nat),k<=rs.length/\i=.int .i64 k/\chk rs=zd1 (rs.take k) (rs.drop k) k/\w.heap.size<wr.heap.size/\(∀ j,j<3->wr.cell? ⟨w.heap.size,j,none⟩=some (.int .i64 0))/\(∀ j,wr.frozen? ⟨w.heap.size,j,none⟩=false)/\Below w.heap.size w wr) (fun i _=>rs.length - (intOf i).toNat)
 case atStart=>exact ⟨0,by omega,rfl,by rw[HC.out];rfl,by simp,fun j hj=>by (match j,hj with | 0,_=>simp[go_sem] | 1,_=>simp[go_sem] | 2,_=>simp[go_sem]),fun j=>by simp[go_sem],B0 _⟩
 case round=>
  obtain ⟨k,hk,rfl,hG,Z,hy,U,hb⟩:=hrel;have HG:=za9 hG;clear hG;have y0:=hy 0 (by omega);have y1:=hy 1 (by omega);have y2:=hy 2 (by omega);have f0:=U 0;have f1:=U 1;have f2:=U 2;have HY:=za9 (And.intro hy U);clear hy U;by_cases au:k<rs.length
  ·obtain ⟨x,I⟩:∃ x,rs[k]?=some x:=⟨rs[k],by simp[au]⟩
   have ak:=hv.below hb;obtain ⟨b,o,a_pats,c_pats,a_exprs,c_exprs,a_acts,c_acts,rfl,hq,c0,c1,c2,c3,c4,ae,O,af,ah⟩:=ak.get I;have aq:=ag x (List.mem_of_getElem? I);have ax:=ho x (List.mem_of_getElem? I);have HD:Hid (rs.drop k=x :: rs.drop (k+1)):=zaU I;have HT:Hid (rs.take (k+1)=rs.take k ++ [x]):=zdG rs k x I;have al:(rs.take k).length=k:=by simp;omega
   have E:=zHB wr;have aD:∀ o,Below w.heap.size w (wr.alloc o):=fun o=>hb.alloc hb.size _;have ad:=za9 (fun w' (h0:Below wr.heap.size wr w')=>znC x a_pats c_pats a_exprs c_exprs a_acts c_acts (some ⟨b,o,none⟩) c (rs.take k) (q:=q) w' (zbf.take (ak.below h0) k) (ae.below h0) (O.below h0) (af.below h0) aq ax ah (by omega));rw[al]at ad;have z0:(0:Int)<=(k:Int):=by omega
   have z1:(k:Int)<=(c:Int):=by omega
   obtain ⟨⟨p1,p2⟩,hp⟩:∃ p,chk1 (rs.take k) x=p:=⟨_,rfl⟩
   rw[hp]at ad;by_cases ab:p1=0
   ·have HX:Hid (chk rs=zd1 (rs.take (k+1)) (rs.drop (k+1)) (k+1)):=show chk rs=_ from by rw[HG.out,HD.out,zb4,hp,if_pos ab,HT.out]
    subst ab;go_wp2
    first
    | (go_region_held3 (fun w'=>w'.cell? ⟨wr.heap.size,0,none⟩=some (.string x.name)/\w'.cell? ⟨wr.heap.size,1,none⟩=some (.int .i64 x.sal)/\w'.cell? ⟨wr.heap.size,2,none⟩=some (.slice a_pats x.pats.length c_pats)/\w'.cell? ⟨wr.heap.size,3,none⟩=some (.slice a_exprs x.exprs.length c_exprs)/\w'.cell? ⟨wr.heap.size,4,none⟩=some (.slice a_acts x.acts.length c_acts)) ((go_split_ands;refine ⟨?_,?_,?_,?_,?_⟩ <;> first | (simp[go_sem];done) | exact zaa X (by assumption))) (first | (go_at_call 19;refine (ad.out _ ((E _).drew)).mono ?_;rintro e w' ⟨rfl,X⟩) | fail))
    | fail
    have G:Below wr.heap.size wr w':=(E _).drew.trans (X.mono (by have:=(E (.map #[] 0)).size;simp));go_wp2;go_roundw
    case rel=>exact ⟨k+1,by omega,by go_num,HX.out,Nat.lt_of_lt_of_le Z G.size,fun j hj=>zaa G (HY.out.1 j hj),fun j=>by rw[(bcell G).2 _ _ Z];exact HY.out.2 j,hb.trans (G.mono hb.size)⟩
    case measure=>simp[intOf];omega
   have HX:Hid (chk rs=(p1,(k:Int),p2)):=show chk rs=_ from by rw[HG.out,HD.out,zb4,hp,if_neg ab]
   have az:(p1 != 0)=true:=by simpa using ab
   go_wp2
   first
   | (go_region_held3 (fun w'=>w'.cell? ⟨wr.heap.size,0,none⟩=some (.string x.name)/\w'.cell? ⟨wr.heap.size,1,none⟩=some (.int .i64 x.sal)/\w'.cell? ⟨wr.heap.size,2,none⟩=some (.slice a_pats x.pats.length c_pats)/\w'.cell? ⟨wr.heap.size,3,none⟩=some (.slice a_exprs x.exprs.length c_exprs)/\w'.cell? ⟨wr.heap.size,4,none⟩=some (.slice a_acts x.acts.length c_acts)) ((go_split_ands;refine ⟨?_,?_,?_,?_,?_⟩ <;> first | (simp[go_sem];done) | exact zaa X (by assumption))) (first | (go_at_call 19;refine (ad.out _ ((E _).drew)).mono ?_;rintro e w' ⟨rfl,X⟩) | fail))
   | fail
   have G:Below wr.heap.size wr w':=(E _).drew.trans (X.mono (by have:=(E (.map #[] 0)).size;simp));have aw:=zaa G y0;have ap:=zaa G y1;have ar:=zaa G y2;have ay:w'.frozen? ⟨w.heap.size,0,none⟩=false:=by rw[(bcell G).2 _ _ Z];exact f0
   have aC:w'.frozen? ⟨w.heap.size,1,none⟩=false:=by rw[(bcell G).2 _ _ Z];exact f1
   have aB:w'.frozen? ⟨w.heap.size,2,none⟩=false:=by rw[(bcell G).2 _ _ Z];exact f2
   go_wp2;have ao:=hb.trans (G.mono hb.size);refine bodyPost_ret (v:=.agg #[.int .i64 p1,.int .i64 (k:Int),.int .i64 p2]) (by simp[results,Tryz.results9,go_sem,aw,ap,ar]) rfl ⟨by rw[HX.out];rfl,?_⟩;exact ((ao.setCell (Nat.le_refl _) _).setCell (Nat.le_refl _) _).setCell (Nat.le_refl _) _
  have HX:Hid (chk rs=(0,0,0)):=show chk rs=_ from by rw[HG.out,List.drop_eq_nil_of_le (by omega)];rfl
  go_wp2;refine bodyPost_ret (v:=.agg #[.int .i64 0,.int .i64 0,.int .i64 0]) (by simp[results,Tryz.results9,go_sem,y0,y1,y2]) rfl ⟨by rw[HX.out];rfl,?_⟩;exact ((hb.setCell (Nat.le_refl _) _).setCell (Nat.le_refl _) _).setCell (Nat.le_refl _) _
end Go.Proofs.YtjjjagepnnbebaaGreatDoor
namespace Go.Proofs.YtjjjagepnnbebaaGreatDoor
open Go.RowKit
theorem zcl.owns{w:World}{base n:Nat}{a:Option Addr}{c:Nat}{xs:List ByteArray}(h:w.ownsRow base 9 1 (.slice a n c) n (xs.map Value.string)):zcl none w a xs:=by
 intro i s hs;have G:(xs.map Value.string)[i]?=some (.string s):=by simp[hs]
 obtain ⟨g,rfl,_,I,_⟩:=zbE h G;refine ⟨g,0,[.string s],rfl,Qb.bare _ _ _,rfl,?_,rfl⟩;intro j v hj;have E:j=0:=by
  have:=(List.getElem?_eq_some_iff.1 hj).1;simp at this;exact this
 subst E;simp at hj;subst hj;simpa using I
theorem zm3{w:World}{base n:Nat}{a:Option Addr}{c:Nat}{xs:List ByteArray}(h:w.ownsRow base 9 1 (.slice a n c) n (xs.map Value.string))(ha:a=none):xs.length=0:=by
 cases xs with
 | nil=>rfl
 | cons x r=>
  obtain ⟨g,hg,_⟩:=zbE h (j:=0) (x:=.string x) (by simp);rw[ha]at hg
  cases hg
theorem zng:(Tryz.prog.info? 9).map (fun i=>(i.zero,i.size,i.bytes))=some (some (.string ByteArray.empty),1,16):=by kernel_rfl
theorem zpA(xs:List ByteArray):∀ u∈xs.map Value.string,u.oneCell'=true:=by
 intro u E;obtain ⟨s,_,rfl⟩:=List.mem_map.1 E;rfl
theorem znI{w:World}{q:Option Nat}{a:Option Addr}{xs:List ByteArray}(h:zcl q w a xs):∀ G,a=some G->∀ (j:Nat) u,(xs.map Value.string)[j]?=some u->w.cell? (G.add j)=some u:=by
 intro G hd j u E;rw[List.getElem?_map]at E
 cases hx:xs[j]? with
 | none=>rw[hx]at E;cases E
 | some s=>
  rw[hx]at E;simp at E;subst E;obtain ⟨b,o,rfl,_,I⟩:=h.get hx
  cases hd
  rw[Addr.add_mid];exact I
theorem zl0{x:Ru}(h:shape x=none):zbP (zat [] x.exprs) x.acts 0 1=none:=by
 unfold shape at h;split at h
 ·split at h
  ·cases h
  ·split at h
   ·cases h
   ·exact h
 cases h
theorem zpM{S:List Sp}{y:Ac}{nx n:Nat}(h:gAc S y nx=some n):zaT S y.args nx=some n:=by
 unfold gAc at h;split at h
 ·exact h
 cases h
theorem zfG{S:List Sp}{x:Int}{r:List Int}{nx n:Nat}(h:zaT S (x :: r) nx=some n):∃ (x0:Nat) (G:Sp),x=(x0:Int)/\S[x0]?=some G/\G.1=nx/\zaT S r (x0+1)=some n:=by
 rw[zbg]at h;split at h
 ·rename_i E;simp only[Bool.and_eq_true,decide_eq_true_eq]at E;obtain ⟨I,h1,h2⟩:=E;obtain ⟨x0,rfl⟩:=Int.eq_ofNat_of_zero_le I;have hx:x0<S.length:=by omega
  refine ⟨x0,S[x0],rfl,by simp,?_,h⟩;simpa[hx] using h2
 cases h
theorem zi4{es:List Ex}{S:List Sp}(hS:Spans es S):∀ {l:List Int}{nx n:Nat},zaT S l nx=some n->nx<=n
 | [],nx,n,h=>by
  have:some nx=some n:=h
  injection this with this
  omega
 | x :: r,nx,n,h=>by
  obtain ⟨x0,E,rfl,hs,rfl,hr⟩:=zfG h
  have h1:=zi4 hS hr
  have h2:=hS.first_le x0 E hs
  omega
theorem zgY{S:List Sp}:∀ {l:List Int}{nx n:Nat},l≠[]->zaT S l nx=some n->∃ E:Nat,l.getLast?=some (E:Int)/\n=E+1/\E<S.length
 | [],_,_,h,_=>absurd rfl h
 | x :: r,nx,n,_,h=>by
  obtain ⟨x0,I,rfl,hs,rfl,hr⟩:=zfG h
  cases r with
  | nil=>
   have:some (x0+1)=some n:=hr
   injection this with this
   exact ⟨x0,rfl,this.symm,(List.getElem?_eq_some_iff.1 hs).1⟩
  | cons y G=>
   obtain ⟨E,h1,h2,h3⟩:=zgY (l:=y :: G) (by simp) hr
   exact ⟨E,by simpa using h1,h2,h3⟩
theorem zjd{α:Type}{f:α->Bool}{l:List α}{j:Nat}{x:α}(h:l[j]?=some x):(l.take (j+1)).all f=((l.take j).all f && f x):=by
 rw[List.take_add_one,h];simp
theorem zhu{α:Type}{f:α->Bool}{l:List α}{j m:Nat}{x:α}(h:l[j]?=some x)(hj:j<m)(hf:f x=false):(l.take m).all f=false:=by
 rw[List.all_eq_false];refine ⟨x,?_,by simp[hf]⟩;have:(l.take m)[j]?=some x:=by rw[List.getElem?_take,if_pos hj,h]
 exact List.mem_of_getElem? this
theorem zkt{es:List Ex}{known:List ByteArray}{y:Ac}{E:Nat}(h:y.args.getLast?=some (E:Int)):zcx es known y=(es.take (E+1)).all (zbD known):=by
 have h1:y.args.isEmpty=false:=by
  cases hy:y.args with
  | nil=>rw[hy]at h;cases h
  | cons v r=>rfl
 have h2:upTo y=E+1:=by
  unfold upTo;rw[h];rfl
 unfold zcx;rw[h1,h2];rfl
def zmT:Option Nat->Int
 | none=>-1
 | some i=>(i:Int)
end Go.Proofs.YtjjjagepnnbebaaGreatDoor
