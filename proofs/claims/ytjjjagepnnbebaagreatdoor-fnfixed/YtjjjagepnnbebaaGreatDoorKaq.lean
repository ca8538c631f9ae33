/-
  OUR OWN TEXT. RdS, Tx5, Tx6, Tx7, Tx8, Tx9, Tx10, Sm3, Dp0, Av, Dp1, Tx14, Tx15, Tx17, Dp2, Sc3, Yc1, one behind the other.
-/
import Derived.Test.YtjjjagepnnbebaaGreatDoorKac
import Derived.Test.YtjjjagepnnbebaaGreatDoorKam
import Derived.Test.YtjjjagepnnbebaaGreatDoorKai
import Derived.Test.YtjjjagepnnbebaaGreatDoorShf
import Derived.Deep.DeepCutAuto
import Derived.Test.YtjjjagepnnbebaaGreatDoorKal
import Derived.Test.YtjjjagepnnbebaaGreatDoorKah
import Derived.Test.YtjjjagepnnbebaaGreatDoorDr0m
import Derived.Lib.ConvBytes
import Derived.Lib.AppendStr
import Derived.Deep.Cut
import Derived.Lib.AtoiErrMem
import Derived.Test.YtjjjagepnnbebaaGreatDoorSc1m
import Derived.Test.YtjjjagepnnbebaaGreatDoorSc2m
import Derived.Test.YtjjjagepnnbebaaGreatDoorKak
import Derived.Deep.RegionHeld3
import Derived.Deep.DrawnRows
import Derived.BigQuiet
set_option maxHeartbeats 12800000
set_option maxRecDepth 100000
namespace Go.Proofs.YtjjjagepnnbebaaGreatDoor
open Go.RowKit Go.Deep
theorem zoA:Tryz.prog.cellsOf 5=1:=by kernel_rfl
theorem zsu{a:Int}(h:(Lit.int .u8 a).wf=true):0<=a/\a<256:=by
 have E:IntKind.u8.min=0:=rfl;have h1:IntKind.u8.max=255:=rfl;simp[Lit.wf]at h;omega
section
variable {H : Type} {enc : TypeId × Value -> H} {w : World} {base : Nat} {spare : Nat -> Bool} {held : Bool}
theorem zqM{n:Nat}{cs:List Value}{x:DataW H × List MemPlace}(h:DataW.trod enc Tryz.prog w base spare held n 22 cs=some x):∃ a c,∃ l:Bs,cs=[.slice a l.length c]/\zbZ w a l/\l.length<=maxLen:=by
 obtain ⟨a,c,vs,e,U,_,hm,_⟩:=zqN (R:=fun _ r (u:UInt8)=>r=[.int .u8 (u.toNat:Int)]) (Ok:=fun _=>True) (0:UInt8) 22 5 5 1 Tryz.underlying22 zoA (by omega) (fun n cs x h E=>by
  match cs,E with
  | [v0],_=>
   obtain ⟨k,O,_,G⟩:=DataW.trod_int Tryz.underlying5 h;obtain ⟨h1,h2⟩:=zsu G;refine ⟨UInt8.ofNat k.toNat,?_,trivial⟩;have:(UInt8.ofNat k.toNat).toNat=k.toNat:=by
    simp;omega
   rw[O,this,Int.toNat_of_nonneg h1]) h
 refine ⟨a,c,vs,e,fun j y hy=>?_,hm⟩;obtain ⟨b,o,r,e1,_,_,E,hr⟩:=U j y hy;have I:=E 0 _ (by rw[hr];rfl);refine ⟨b,o,e1,?_,?_⟩
 ·exact World.block_lt_of_cell? w ⟨b,_,none⟩ I
 simpa using I
end
end Go.Proofs.YtjjjagepnnbebaaGreatDoor
namespace Go.Proofs.YtjjjagepnnbebaaGreatDoor
open Go.RowKit
attribute [local go_sem ↓] Go.wp_at_zero Go.wp_at_succ
def zcI (w : World) : Prop := Lib.TabIs Tryz.prog w "internal/strconv.uint64pow10" .u64 Lib.pow10Tab ∧ zcu w 1 1
theorem zjW : Tryz.prog.globalNamed "internal/strconv.uint64pow10" = some 2 := by kernel_rfl
theorem zcI.below{w w':World}(h:zcI w)(hb:Below w.heap.size w w'):zcI w':=by
 refine ⟨?_,h.2.below hb⟩;have h1:=h.1;unfold Lib.TabIs World.var? at h1 ⊢;rw[zjW]at h1 ⊢;simp only[Option.bind_some]at h1 ⊢;have E:2<w.heap.size:=by
  by_cases hp:2<w.heap.size
  ·exact hp
  rw[Array.getElem?_eq_none (by omega)]at h1;simp at h1
 rw[hb.block _ E];exact h1
theorem zlB(w:World)(q:Nat)(os:Array Obj):Below w.heap.size w (Go.Sort.grow (w.drewN q) os):=
 ⟨rfl,rfl,rfl,by simp[Go.Sort.grow],fun k hk=>by
  show ((w.drewN q).heap ++ os)[k]?=_
  rw[Array.getElem?_append_left (by exact hk)]
  rfl⟩
theorem zhY(n:Int)(w:World)(hV:zcI w)(hn:zbr n):Calls Tryz.prog 31 #[.int .i64 n,.int .i64 10] w fun e w'=>e=.returned (.string (mkS (Lib.itoa n)))/\Below w.heap.size w w':=
 (Tryz.strconv_FormatInt_10 n hn.1 hn.2 w hV.1).mono fun e w' ⟨h1,k,os,h2⟩=>⟨h1,by rw[h2];exact zlB w k os⟩
theorem zlx(n:Int)(w:World)(hV:zcI w)(hn:zbr n):Calls Tryz.prog 74 #[.int .i64 n] w fun e w'=>e=.returned (.string (mkS (Lib.itoa n)))/\Below w.heap.size w w':=
 (Tryz.strconv_Itoa n hn.1 hn.2 w hV.1).mono fun e w' ⟨h1,k,os,h2⟩=>⟨h1,by rw[h2];exact zlB w k os⟩
def StrC(w:World)(b o:Nat)(xs:List Bs):Prop:=∀ (j:Nat) x,xs[j]?=some x->w.cell? ⟨b,o+j,none⟩=some (.string (mkS x))
theorem StrC.below{w w':World}{b o:Nat}{xs:List Bs}(h:StrC w b o xs)(hb:Below w.heap.size w w'):StrC w' b o xs:=fun j x hx=>zaa hb (h j x hx)
theorem StrC.block{w:World}{b:Nat}{t:TypeId}{xs:List Bs}(h:w.heap[b]?=some (.cells (xs.map fun x=>Value.string (mkS x)).toArray t (0,0))):StrC w b 0 xs:=by
 intro j x hx;simp[World.cell?,h,hx]
theorem StrC.owns{w:World}{base n:Nat}{a:Option Addr}{c:Nat}{xs:List Bs}(h:w.ownsRow base 9 1 (.slice a n c) n (xs.map fun x=>Value.string (mkS x)))(h1:1<=xs.length):∃ b,a=some ⟨b,0,none⟩/\StrC w b 0 xs/\b<w.heap.size:=by
 obtain ⟨x0,I⟩:∃ x,xs[0]?=some x:=⟨xs[0],by simp⟩
 obtain ⟨g,hg,_,O,_⟩:=zbE h (j:=0) (x:=.string (mkS x0)) (by simp[I]);refine ⟨g,hg,fun j x hx=>?_,World.block_lt_of_cell? _ _ O⟩;obtain ⟨U,E,_,G,_⟩:=zbE h (j:=j) (x:=.string (mkS x)) (by simp[hx]);rw[hg]at E;injection E with e;injection e with e1;subst e1;rw[Nat.zero_add];exact G
theorem zlt(b o c:Nat)(xs:List Bs)(E:Bs)(w:World)(O:StrC w b o xs)(hb:b<w.heap.size)(U:xs.length<=1000)(G:xs.length<=c)(I:(Lib.join xs E).length<=100000000000) :
  Calls Tryz.prog 34 #[.slice (some ⟨b,o,none⟩) xs.length c,.string (mkS E)] w fun e w'=>e=.returned (.string (mkS (Lib.join xs E)))/\Below w.heap.size w w':=by
 have e:((xs.map mkS).map (·.data.toList))=xs:=by rw[List.map_map];exact List.map_id'' (fun x=>rfl) xs
 have h:=Tryz.strings_Join b o c (xs.map mkS) (mkS E) w (fun j x hx=>by
  rw[List.getElem?_map]at hx;obtain ⟨y,hy,rfl⟩:=Option.map_eq_some_iff.1 hx;exact O j y hy) hb (by rw[List.length_map];omega) (by rw[List.length_map];omega) (by rw[e];show (Lib.join xs E).length<=_;omega)
 rw[e,List.length_map]at h;exact h
theorem cat3(x:Bs):({ data:=#[40] }:ByteArray) ++ mkS x ++ { data:=#[41] }=mkS (40 :: (x ++ [41])):=by
 have e:∀ x:UInt8,({ data:=#[x] }:ByteArray)=mkS [x]:=fun _=>rfl;rw[e,e,zaV,zaV];simp
theorem zeh(b o c:Nat)(xs:List Bs)(w:World)(U:StrC w b o xs)(hb:b<w.heap.size)(X:xs.length<=1000)(E:xs.length<=c)(G:(Lib.join xs [32]).length<=10000000000) :
  Calls Tryz.prog 72 #[.slice (some ⟨b,o,none⟩) xs.length c] w fun e w'=>e=.returned (.string (mkS (40 :: (Lib.join xs [32] ++ [41]))))/\Below w.heap.size w w':=by
 have O:=hidX (zlt b o c xs [32] w U hb X E (by omega));obtain ⟨x,hx⟩:∃ x,x=Lib.join xs [32]:=⟨_,rfl⟩
 rw[<- hx]at O G ⊢;clear hx U;have y1:¬ 9223372036854775807<1+(mkS x).size:=by rw[zad];omega
 have Z:¬ 9223372036854775807<({ data:=#[40] }:ByteArray).size+(mkS x).size:=by rw[zad,zaC];omega
 have y3:¬ 9223372036854775807<(({ data:=#[40] }:ByteArray) ++ mkS x).size+1:=by rw[ByteArray.size_append,zad,zaC];omega
 have y4:¬ 9223372036854775807<(({ data:=#[40] }:ByteArray) ++ mkS x).size+({ data:=#[41] }:ByteArray).size:=by rw[ByteArray.size_append,zad,zaC,zaC];omega
 go_enter Tryz.func72,Tryz.ntmps72;go_wp2_with (go_at_call 34;refine O.out.mono ?_;rintro e w1 ⟨rfl,I⟩);go_ret;exact ⟨congrArg (fun x=>Ending.returned (.string x)) (cat3 x),I⟩
theorem zgT(v:V)(w:World)(hV:zcI w)(hn:zbr v.num):Calls Tryz.prog 121 #[.agg #[.int .i64 v.kind,.int .i64 v.num,.string v.sym]] w fun e w'=>e=.returned (.string (mkS (txV v)))/\Below w.heap.size w w':=by
 have E:=zHB w;by_cases hk:v.kind=1
 ·have G:Hid (v.sym=mkS (txV v)):=show v.sym=mkS (txV v) from by unfold txV;rw[if_pos hk,zb2]
  go_enter Tryz.func121,Tryz.ntmps121;go_wp2;go_ret;refine ⟨?_,E _⟩;rw[<- G.out];rfl
 have G:Hid (Lib.itoa v.num=txV v):=show Lib.itoa v.num=txV v from by unfold txV;rw[if_neg hk]
 have O:=hidX (fun o=>hV.below (E o));clear hV;go_enter Tryz.func121,Tryz.ntmps121;go_wp2_with (go_at_call 31;refine (zhY v.num _ (O.out _) hn).mono ?_;rintro e U ⟨rfl,I⟩);go_ret;exact ⟨zb6 G.out,(E _).trans (I.mono (E _).size)⟩
theorem znJ(x0 x1:Int)(t:Tm)(w:World)(hV:zcI w)(hn:zbr t.val.num)(hg:zbo t=true):Calls Tryz.prog 122 #[.agg #[.int .i64 x0,.int .i64 x1,.string t.var,.int .i64 t.val.kind,.int .i64 t.val.num,.string t.val.sym]] w fun e w'=>e=.returned (.string (mkS (txO t)))/\Below w.heap.size w w':=by
 have E:=zHB w;have X:=zll hg hn
 cases hv:t.var.toList.isEmpty
 ·have hb:isE t.var=false:=hv;have I:({ data:=#[63] }:ByteArray) ++ t.var=mkS (txO t):=by
   rw[txO,hb];exact zez t.var [63]
  have hs:¬ 9223372036854775807<({ data:=#[63] }:ByteArray).size+t.var.size:=by
   have:=congrArg ByteArray.size I;rw[zad,ByteArray.size_append]at this;omega
  have U:=hidX I;clear I hb;go_enter Tryz.func122,Tryz.ntmps122;go_wp2;go_ret;refine ⟨?_,E _⟩;rw[<- U.out];rfl
 have hb:isE t.var=true:=hv;have Z:Hid (txV t.val=txO t):=show txV t.val=txO t from by unfold txO;rw[hb];rfl
 have O:=hidX (fun o=>hV.below (E o));clear hV hb;go_enter Tryz.func122,Tryz.ntmps122;go_wp2_with (go_at_call 121;refine (zgT t.val _ (O.out _) hn).mono ?_;rintro e w1 ⟨rfl,G⟩);go_ret;exact ⟨zb6 Z.out,(E _).trans (G.mono (E _).size)⟩
theorem zjI(t:Tm)(w:World)(hV:zcI w)(hg:gTm t=true)(hn:zbr t.val.num):Calls Tryz.prog 71 #[.agg #[.int .i64 t.kind,.int .i64 t.op,.string t.var,.int .i64 t.val.kind,.int .i64 t.val.num,.string t.val.sym]] w fun e w'=>e=.returned (.string (mkS (txT t)))/\Below w.heap.size w w':=by
 have hA:=zHB w;have HV:=hidX hV;clear hV;by_cases k1:t.kind=1
 ·have HX:Hid (txV t.val=txT t):=show txV t.val=txT t from by unfold txT;rw[if_pos k1]
  have HW:=hidX (fun o=>HV.out.below (hA o));go_enter Tryz.func71,Tryz.ntmps71;go_wp2_with (go_at_call 121;refine (zgT t.val _ (HW.out _) hn).mono ?_;rintro e w1 ⟨rfl,G⟩);go_ret;exact ⟨zb6 HX.out,(hA _).trans (G.mono (hA _).size)⟩
 by_cases k2:t.kind=2
 ·have HX:Hid (63 :: bsOf t.var=txT t):=show _=txT t from by unfold txT;rw[if_neg k1,if_pos k2]
  have hv:t.var.size<=20:=by
   simp[gTm,k2]at hg;exact zdm hg.2.1
  have hs:¬ 9223372036854775807<({ data:=#[63] }:ByteArray).size+t.var.size:=by
   have:({ data:=#[63] }:ByteArray).size=1:=rfl;omega
  go_enter Tryz.func71,Tryz.ntmps71;go_wp2;go_ret;refine ⟨?_,hA _⟩;rw[<- HX.out];exact congrArg (fun x=>Ending.returned (.string x)) (zez t.var [63])
 by_cases k3:t.kind=3
 ·have hT:1<=t.op/\t.op<=6/\zbo t=true:=by
   simp[gTm,k3]at hg;exact hg
  obtain ⟨ah,aj,X⟩:=hT;obtain ⟨n,af⟩:∃ n:Nat,t.op=(n:Int):=⟨t.op.toNat,by omega⟩
  have ap:1<=n:=by omega
  have aq:n<=6:=by omega
  obtain ⟨ob,ab⟩:∃ o,o=opTx.getD (n - 1) []:=⟨_,rfl⟩
  have HX:Hid (40 :: (ob ++ 32 :: (txO t ++ [41]))=txT t):=show _=txT t from by unfold txT;rw[if_neg k1,if_neg k2,if_pos k3,af,ab];simp
  have al:=zll X hn;have ao:=zkv (n - 1);rw[<- ab]at ao;have ad:(Lib.join [ob,txO t] [32]).length<=10000000000:=by rw[zgq];simp;omega
  have tw:∀ w',zcI w'->w'.cell? ⟨1,n,none⟩=some (.string (mkS ob)):=fun w' h=>by
   have:=h.2 (n - 1) (by omega);rw[<- ab,show 1+(n - 1)=n by omega]at this;exact this
  have TW:=hidX tw;have HL:=hidX ad;have ak:=hidX X;rw[af];rw[k3];clear ab tw ad al X af ah aj k1 k2 k3 hg;have i0:(0:Int)<=(n:Int):=by omega
  have i7:(n:Int)<7:=by omega
  go_enter Tryz.func71,Tryz.ntmps71;go_upto_region 7 with fail
  refine zaf ?_;intro Z ae U;have ag:=hidX (HV.out.below ae);have c0:Z.cell? ⟨w.heap.size,0,none⟩=some (.int .i64 3):=by simp[World.cell?,U]
  have c1:Z.cell? ⟨w.heap.size,1,none⟩=some (.int .i64 (n:Int)):=by simp[World.cell?,U]
  have c2:Z.cell? ⟨w.heap.size,2,none⟩=some (.string t.var):=by simp[World.cell?,U]
  have c3:Z.cell? ⟨w.heap.size,3,none⟩=some (.int .i64 t.val.kind):=by simp[World.cell?,U]
  have c4:Z.cell? ⟨w.heap.size,4,none⟩=some (.int .i64 t.val.num):=by simp[World.cell?,U]
  have c5:Z.cell? ⟨w.heap.size,5,none⟩=some (.string t.val.sym):=by simp[World.cell?,U]
  have c6:=TW.out Z ag.out;clear U;refine wp_region_noPanic ?_;refine wp_region_held_drew (S:=(fun w'=>w'.cell? ⟨w.heap.size,0,none⟩=some (.int .i64 3)/\w'.cell? ⟨w.heap.size,1,none⟩=some (.int .i64 (n:Int))/\w'.cell? ⟨w.heap.size,2,none⟩=some (.string t.var)/\w'.cell? ⟨w.heap.size,3,none⟩=some (.int .i64 t.val.kind)/\w'.cell? ⟨w.heap.size,4,none⟩=some (.int .i64 t.val.num)/\w'.cell? ⟨w.heap.size,5,none⟩=some (.string t.val.sym)/\w'.cell? ⟨1,n,none⟩=some (.string (mkS ob)))) (by kernel_rfl) ?_ (fun E=>?_)
  ·(try dsimp only);exact ⟨c0,c1,c2,c3,c4,c5,c6⟩
  refine tk 0 E ?_;(try simp only[pA,pZ,pS]);refine tk 1 E ?_;(try simp only[pA,pZ,pS]);refine tk 2 E ?_;(try simp only[pA,pZ,pS]);refine tk 3 E ?_;(try simp only[pA,pZ,pS]);refine tk 4 E ?_;(try simp only[pA,pZ,pS]);refine wpAnyH_ready (rs:=[5]) (by kernel_rfl) (by simp) ?_;refine AllReadyH.cons (List.getElem?_toArray.trans rfl) (fun K hK=>?_) AllReadyH.nil;go_simp
  go_at_call 122;refine (znJ 3 (n:Int) t _ (ag.out.below (Below.refl _ _).drew) hn ak.out).mono ?_;rintro e' w1 ⟨rfl,G⟩
  (try go_wp2_with fail);refine hK.out _ _ (by (try dsimp only);exact ⟨zaa G E.1,zaa G E.2.1,zaa G E.2.2.1,zaa G E.2.2.2.1,zaa G E.2.2.2.2.1,zaa G E.2.2.2.2.2.1,zaa G E.2.2.2.2.2.2⟩) fun hQ=>?_;replace E:=hQ;clear hK K hQ;(try simp only[pA,pZ,pS,pN]);have I:=zHB w1;refine wpAnyH_ready (rs:=[6]) (by kernel_rfl) (by simp) ?_;refine AllReadyH.cons (List.getElem?_toArray.trans rfl) (fun K hK=>?_) AllReadyH.nil;go_simp;refine hK.out _ _ (by (try dsimp only);exact ⟨zaa (I _) E.1,zaa (I _) E.2.1,zaa (I _) E.2.2.1,zaa (I _) E.2.2.2.1,zaa (I _) E.2.2.2.2.1,zaa (I _) E.2.2.2.2.2.1,zaa (I _) E.2.2.2.2.2.2⟩) fun hQ=>?_;replace E:=hQ;clear hK K hQ;(try simp only[pA,pZ,pS,pN]);refine wpAnyH_ready (rs:=[7]) (by kernel_rfl) (by simp) ?_;refine AllReadyH.cons (List.getElem?_toArray.trans rfl) (fun K hK=>?_) AllReadyH.nil;go_simp
  go_at_call 72;refine (zeh w1.heap.size 0 2 [ob,txO t] _ (StrC.block (heap_alloc_new _ _)) (by simp) (by simp) (by simp) HL.out).mono ?_;rintro e' w2 ⟨rfl,O⟩
  (try go_wp2_with fail);refine hK.out _ _ (by (try dsimp only);exact ⟨zaa O E.1,zaa O E.2.1,zaa O E.2.2.1,zaa O E.2.2.2.1,zaa O E.2.2.2.2.1,zaa O E.2.2.2.2.2.1,zaa O E.2.2.2.2.2.2⟩) fun hQ=>?_;replace E:=hQ;clear hK K hQ;(try simp only[pA,pZ,pS,pN]);refine tk 8 E ?_;(try simp only[pA,pZ,pS]);refine wpAnyH_done (by kernel_rfl) ?_ _;refine NoPanic.normal ?_;go_wp2;go_ret;refine ⟨zb6 ?_,ae.trans (((Below.refl Z.heap.size Z).drew.trans ((G.trans (((I _).trans (O.mono (I _).size)).mono G.size)).mono (by simp))).mono ae.size)⟩;rw[<- HX.out,zgq];simp
 have HX:Hid ([95]=txT t):=show _=txT t from by unfold txT;rw[if_neg k1,if_neg k2,if_neg k3]
 go_enter Tryz.func71,Tryz.ntmps71;go_wp2;go_ret;exact ⟨zb6 HX.out,hA _⟩
theorem zlZ{op:Int}(h:isAr op=true):op=43∨op=45∨op=42∨op=47∨op=37:=by
 simpa[isAr] using h
theorem znA(op:Int)(h:isAr op=true)(w:World):(convert 5 9 (.int .u8 op)).run Tryz.prog w=.ok (.string (mkS [UInt8.ofNat op.toNat])) w:=by
 rcases zlZ h with rfl | rfl | rfl | rfl | rfl <;> kernel_rfl
theorem ExT.txE_args{es:List Ex}{S:List Sp}(h:ExT es S){n a b:Nat}(x:UInt8)(ha:a<es.length)(hb:b<es.length):(Lib.join [[x],txE n es a,txE n es b] [32]).length<=10000000000:=by
 rw[zib];have h1:=zcH h n a ha;have h2:=zcH h n b hb;simp;omega
theorem zmr{es:List Ex}{S:List Sp}(hT:ExT es S)(a:Option Addr)(c:Nat)(q:Option Nat)(n:Nat)
  (IH:∀ (i:Nat) (w:World),zbG q w a es->zcI w->i<n->i<es.length->Calls Tryz.prog 123 #[.slice a es.length c,.int .i64 (i:Int)] w fun e w'=>e=.returned (.string (mkS (txE n es i)))/\Below w.heap.size w w')
  (i:Nat) (w:World) (hE:zbG q w a es) (hV:zcI w) (hin:i<n+1) (hi:i<es.length):Calls Tryz.prog 123 #[.slice a es.length c,.int .i64 (i:Int)] w fun e w'=>e=.returned (.string (mkS (txE (n+1) es i)))/\Below w.heap.size w w':=by
 obtain ⟨e,he⟩:∃ e,es[i]?=some e:=⟨es[i],by simp[hi]⟩
 obtain ⟨b,o,rfl,_,d0,d1,d2,d3,d4,d5,d6,d7⟩:=hE.get he;have hX:=zfW n es i e he;have hn:=hT.2.2.2 e (List.mem_of_getElem? he);have HE:=hidX hE;have HV:=hidX hV;have HI:=hidX IH;have i0:(0:Int)<=(i:Int):=by omega
 have i1:(i:Int)<(es.length:Int):=by omega
 clear hE hV IH;rcases hT.kind he with ⟨k,hv⟩ | ⟨k,hv⟩ | ⟨k,ah,pa,pb,ea,eb,aq,ap⟩
 ·have HX:Hid (txV e.val=txE (n+1) es i):=show _=_ from by rw[hX,if_neg (by omega),if_neg (by omega)]
  rw[k]at d0;clear hX k he;go_enter Tryz.func123,Tryz.ntmps123;go_upto_region 7 with fail
  refine zaf ?_;intro X O I;have c3:X.cell? ⟨w.heap.size,3,none⟩=some (.int .i64 e.val.kind):=by simp[World.cell?,I]
  have c4:X.cell? ⟨w.heap.size,4,none⟩=some (.int .i64 e.val.num):=by simp[World.cell?,I]
  have c5:X.cell? ⟨w.heap.size,5,none⟩=some (.string e.val.sym):=by simp[World.cell?,I]
  clear I;go_wp2_with (go_at_call 121;refine (zgT e.val _ (HV.out.below O) hn).mono ?_;rintro e' w1 ⟨rfl,G⟩);go_ret;exact ⟨zb6 HX.out,O.trans (G.mono O.size)⟩
 ·have HX:Hid (63 :: bsOf e.var=txE (n+1) es i):=show _=_ from by rw[hX,if_pos k]
  have hs:¬ 9223372036854775807<({ data:=#[63] }:ByteArray).size+e.var.size:=by
   have:=zdm hv;have:({ data:=#[63] }:ByteArray).size=1:=rfl;omega
  rw[k]at d0;clear hX k he;have hA:=zHB w;go_enter Tryz.func123,Tryz.ntmps123;go_wp2;go_ret;refine ⟨?_,hA _⟩;rw[<- HX.out];exact congrArg (fun x=>Ending.returned (.string x)) (zez e.var [63])
 have HX:Hid (40 :: UInt8.ofNat e.op.toNat :: 32 :: (txE n es pa ++ 32 :: (txE n es pb ++ [41]))=txE (n+1) es i):=show _=_ from by rw[hX,if_neg (by omega),if_pos k,ea,eb];rfl
 have HL:=hidX (hT.txE_args (n:=n) (UInt8.ofNat e.op.toNat) (show pa<es.length by omega) (show pb<es.length by omega));have ao:=znA e.op ah;rw[k]at d0;rw[ea]at d6;rw[eb]at d7;have aj:pa<n:=by omega
 have ag:pb<n:=by omega
 have ak:pa<es.length:=by omega
 have al:pb<es.length:=by omega
 clear hX k he ea eb ah;go_enter Tryz.func123,Tryz.ntmps123;go_upto_region 6 with fail
 refine zaf ?_;intro X O I;have c1:X.cell? ⟨w.heap.size,1,none⟩=some (.int .u8 e.op):=by simp[World.cell?,I]
 have c6:X.cell? ⟨w.heap.size,6,none⟩=some (.int .i64 (pa:Int)):=by simp[World.cell?,I]
 have c7:X.cell? ⟨w.heap.size,7,none⟩=some (.int .i64 (pb:Int)):=by simp[World.cell?,I]
 clear I d0 d1 d2 d3 d4 d5 d6 d7;have af:=hidX (HE.out.below (O.drew));have ae:=hidX (HV.out.below (O.drew));refine wp_region_noPanic ?_;refine wp_region_held_drew (S:=(fun w'=>w'.cell? ⟨w.heap.size,1,none⟩=some (.int .u8 e.op)/\w'.cell? ⟨w.heap.size,6,none⟩=some (.int .i64 (pa:Int))/\w'.cell? ⟨w.heap.size,7,none⟩=some (.int .i64 (pb:Int)))) (by kernel_rfl) ?_ (fun E=>?_)
 ·(try dsimp only);exact ⟨c1,c6,c7⟩
 refine tk 0 E ?_;(try simp only[pA,pZ,pS]);refine tk 1 E ?_;(try simp only[pA,pZ,pS]);refine tk 2 E ?_;(try simp only[pA,pZ,pS]);refine tk 3 E ?_;(try simp only[pA,pZ,pS]);refine tk 4 E ?_;(try simp only[pA,pZ,pS]);refine tk 5 E ?_;(try simp only[pA,pZ,pS]);refine tk 7 E ?_;(try simp only[pA,pZ,pS]);refine tk 8 E ?_;(try simp only[pA,pZ,pS]);refine tk 9 E ?_;(try simp only[pA,pZ,pS]);refine wpAnyH_ready (rs:=[6]) (by kernel_rfl) (by simp) ?_;refine AllReadyH.cons (List.getElem?_toArray.trans rfl) (fun K hK=>?_) AllReadyH.nil;go_simp
 go_at_call 123;refine (HI.out pa _ af.out ae.out aj ak).mono ?_;rintro e' w1 ⟨rfl,G⟩
 (try go_wp2_with fail);refine hK.out _ _ (by (try dsimp only);exact ⟨zaa G E.1,zaa G E.2.1,zaa G E.2.2⟩) fun U=>?_;replace E:=U;clear hK K U;(try simp only[pA,pZ,pS,pN]);refine wpAnyH_ready (rs:=[10]) (by kernel_rfl) (by simp) ?_;refine AllReadyH.cons (List.getElem?_toArray.trans rfl) (fun K hK=>?_) AllReadyH.nil;go_simp
 go_at_call 123;refine (HI.out pb w1 (af.out.below G) (ae.out.below G) ag al).mono ?_;rintro e' w2 ⟨rfl,ab⟩
 (try go_wp2_with fail);refine hK.out _ _ (by (try dsimp only);exact ⟨zaa ab E.1,zaa ab E.2.1,zaa ab E.2.2⟩) fun U=>?_;replace E:=U;clear hK K U;(try simp only[pA,pZ,pS,pN]);have Z:=zHB w2;refine wpAnyH_ready (rs:=[11]) (by kernel_rfl) (by simp) ?_;refine AllReadyH.cons (List.getElem?_toArray.trans rfl) (fun K hK=>?_) AllReadyH.nil;go_simp;refine hK.out _ _ (by (try dsimp only);exact ⟨zaa (Z _) E.1,zaa (Z _) E.2.1,zaa (Z _) E.2.2⟩) fun U=>?_;replace E:=U;clear hK K U;(try simp only[pA,pZ,pS,pN]);refine wpAnyH_ready (rs:=[12]) (by kernel_rfl) (by simp) ?_;refine AllReadyH.cons (List.getElem?_toArray.trans rfl) (fun K hK=>?_) AllReadyH.nil;go_simp
 go_at_call 72;refine (zeh w2.heap.size 0 3 [[UInt8.ofNat e.op.toNat],txE n es pa,txE n es pb] _ (StrC.block (heap_alloc_new _ _)) (by simp) (by simp) (by simp) HL.out).mono ?_;rintro e' w3 ⟨rfl,ad⟩
 (try go_wp2_with fail);refine hK.out _ _ (by (try dsimp only);exact ⟨zaa ad E.1,zaa ad E.2.1,zaa ad E.2.2⟩) fun U=>?_;replace E:=U;clear hK K U;(try simp only[pA,pZ,pS,pN]);refine tk 13 E ?_;(try simp only[pA,pZ,pS]);refine wpAnyH_done (by kernel_rfl) ?_ _;refine NoPanic.normal ?_;go_wp2;go_ret;refine ⟨zb6 ?_,?_⟩
 ·rw[<- HX.out,zib];simp
 have h1:Below w2.heap.size w2 w3:=(Z _).trans (ad.mono (Z _).size);have h2:Below w1.heap.size w1 w3:=ab.trans (h1.mono ab.size);have h3:Below X.heap.size X w3:=(Below.refl X.heap.size X).drew.trans ((G.trans (h2.mono G.size)).mono (by simp));exact O.trans (h3.mono O.size)
theorem zjF{es:List Ex}{S:List Sp}(E:ExT es S)(a:Option Addr)(c:Nat)(q:Option Nat):∀ (n i:Nat) (w:World),zbG q w a es->zcI w->i<n->i<es.length->Calls Tryz.prog 123 #[.slice a es.length c,.int .i64 (i:Int)] w fun e w'=>e=.returned (.string (mkS (txE n es i)))/\Below w.heap.size w w'
 | 0,_,_,_,_,h,_=>absurd h (Nat.not_lt_zero _)
 | n+1,i,w,hE,hV,hin,hi=>zmr E a c q n (zjF E a c q n) i w hE hV hin hi
def strV(l:List Bs):List Value:=l.map fun x=>Value.string (mkS x)
theorem zfe:(Tryz.prog.info? 9).map (fun i=>(i.zero,i.size,i.bytes))=some (some (.string ByteArray.empty),1,16):=by kernel_rfl
theorem zdy{w:World}{base n m:Nat}{a:Option Addr}{c:Nat}{l l':List Bs}{x:Bs}(h:w.ownsRow base 9 1 (.slice a n c) n (strV l ++ [.string (mkS x)]))(hl:l'=l ++ [x])(hm:m=n):w.ownsRow base 9 1 (.slice a m c) m (strV l'):=by
 subst hl hm;have e:strV (l ++ [x])=strV l ++ [.string (mkS x)]:=by simp[strV]
 rw[e];exact h
theorem zgG{w:World}{g:Nat}{t:TypeId}{L:List Value}{base:Nat}(h:w.heap[g]?=some (.cells L.toArray t (0,0)))(hb:base<=g)(hl:L.length<=1000):w.ownsRow base t 1 (.slice (some ⟨g,0,none⟩) L.length L.length) L.length L:=by
 refine ⟨by omega,.inr ⟨g,L.length,L.toArray,rfl,hb,h,Nat.le_refl _,by unfold maxLen;omega,by simp,by simp⟩⟩
def zrS(w0:World)(l:List Bs)(e:Ending)(w':World):Prop:=∃ a' c',e=.returned (.slice a' l.length c')/\l.length<=c'/\w'.ownsRow w0.heap.size 9 1 (.slice a' l.length c') l.length (strV l)/\Below w0.heap.size w0 w'
theorem zgy{w:World}{base n:Nat}{e:TypeId}{m:Nat}{a:Option Addr}{c:Nat}{xs:List Value}(h:w.ownsRow base e m (.slice a n c) n xs):n<=c:=by
 rcases h.2 with ⟨h,_⟩ | ⟨g,cap,cur,h,_,_,E,_⟩
 ·simp only[Value.slice.injEq]at h;omega
 simp only[Value.slice.injEq]at h;omega
theorem zj5(x0 x1:Int)(x2:ByteArray)(args:List Int)(a_args:Option Addr)(c_args:Nat){es:List Ex}{S:List Sp}(hT:ExT es S)(al:args.length<=6)(U:∀ v∈args,0<=v/\v<(es.length:Int))(a:Option Addr)(c:Nat)(q:Option Nat)(w0 w:World)(I:Below w0.heap.size w0 w)
  (hE:zbG q w0 a es) (hI:zbL q w0 a_args args) (hV:zcI w0) (fa:Option Addr) (fc:Nat) (E:List Bs) (aq:E.length<=2) (hown:w.ownsRow w0.heap.size 9 1 (.slice fa E.length fc) E.length (strV E)) :
  Calls Tryz.prog 73 #[.agg #[.int .i64 x0,.int .i64 x1,.string x2,.slice a_args args.length c_args],.slice a es.length c,.slice fa E.length fc] w (zrS w0 (E ++ args.map fun i=>txE 60 es i.toNat)):=by
 have HE:=hidX hE;have HI:=hidX hI;have HV:=hidX hV;have HO:=hidX hown;have af:=hidX U;have h60:=hT.1;have ap:=I.size;have HA:=hidX (fun o=>I.alloc I.size o:∀ o,Below w0.heap.size w0 (w.alloc o));have Z:=hidX (fun o=>zao hown ((Below.refl _ _).alloc (Nat.le_refl _) o));clear hE hI hV hown U;go_enter Tryz.func73,Tryz.ntmps73;go_wp2
 go_loopw [2,12] (fun sv iv wr=>∃ (k:Nat) (a':Option Addr) (c':Nat),k<=args.length/\iv=.int .i64 (k:Int)/\sv=.slice a' (E.length+k) c'/\wr.ownsRow w0.heap.size 9 1 (.slice a' (E.length+k) c') (E.length+k) (strV (E ++ (args.take k).map fun i=>txE 60 es i.toNat))/\Below w0.heap.size w0 wr) (fun _ iv _=>args.length - (intOf iv).toNat)
 case atStart=>exact ⟨0,fa,fc,Nat.zero_le _,rfl,rfl,by simpa using Z.out _,HA.out _⟩
 case round=>
  obtain ⟨k,a',c',hk,rfl,rfl,hown,hb⟩:=hrel;have HR:=hidX hown;have X:=hidX hb;have hsz:=hb.size;clear hown hb;by_cases ah:k<args.length
  ·obtain ⟨v,hv⟩:∃ v,args[k]?=some v:=⟨args[k],by simp[ah]⟩
   obtain ⟨aj,ak⟩:=af.out v (List.mem_of_getElem? hv);obtain ⟨m,rfl⟩:∃ m:Nat,v=(m:Int):=⟨v.toNat,by omega⟩
   obtain ⟨b,o,rfl,_,hc⟩:=(HI.out.below X.out).get hv;have i0:(0:Int)<=(k:Int):=by omega
   have i1:(k:Int)<(args.length:Int):=by omega
   have hm:m<es.length:=by omega
   have HL:Hid (E ++ (args.take (k+1)).map (fun i=>txE 60 es i.toNat)=(E ++ (args.take k).map (fun i=>txE 60 es i.toNat)) ++ [txE 60 es m]):=show _=_ from by rw[List.take_add_one,hv];simp
   clear hv aj ak;go_wp2_with (go_at_call 123;refine (zjF hT a c q 60 m _ (HE.out.below X.out) (HV.out.below X.out) (by omega) hm).mono ?_;rintro e w1 ⟨rfl,G⟩;refine Hid.out ?_);refine hidX ?_;have O:=hidX (zao HR.out G);have ae:=hidX (X.out.trans (G.mono hsz));have ao:=G.size;clear G;go_wp2_with (at_builtin;refine zag (by rfl) (.tmp 16) (.tmp 20) 75 (by rfl) w0.heap.size 9 _ 1 16 Tryz.underlying75 zfe (by rfl) (by omega) _ (E.length+k) _ (by rfl) (zao O.out ((Below.refl _ _).alloc (Nat.le_refl _) _)) (some ⟨w1.heap.size,0,none⟩) 1 1 (by rfl) [.string (mkS (txE 60 es m))] (by rfl) (fun e=>by cases e) (zas _ _ _ _ rfl) (by simp[Value.oneCell']) (by unfold maxLen;omega) (by omega) (by simp;omega) ?_;intro a3 c3 w3 ad ab ar);have ag:=hidX ((ae.out.alloc (by omega) _).grown ab.out (by simp;omega) (fun j hj=>by have:=(O.out.lt j hj).1;exact this));go_wp2;go_roundw
   case rel=>exact ⟨k+1,a3,c3,by omega,by go_num,by rw[Nat.add_assoc],zdy ad.out HL.out (by omega),ag.out⟩
   case measure=>(simp[intOf];omega)
  obtain rfl:k=args.length:=by omega
  have i1:¬ (args.length:Int)<(args.length:Int):=by omega
  go_wp2;go_ret;have h:=HR.out;rw[List.take_length]at h;have e:(E ++ args.map fun i=>txE 60 es i.toNat).length=E.length+args.length:=by simp
  exact ⟨a',c',by rw[e];rfl,by rw[e];exact zgy h,by rw[e];exact h,X.out⟩
theorem zgk{es:List Ex}{S:List Sp}(I:ExT es S){args:List Int}(G:args.length<=6)(E:∀ v∈args,0<=v/\v<(es.length:Int))(x y:Bs)(hx:x.length<=30)(hy:y.length<=30):(Lib.join ([x,y] ++ args.map fun i=>txE 60 es i.toNat) [32]).length<=10000000000:=by
 show (Lib.join (x :: y :: args.map fun i=>txE 60 es i.toNat) [32]).length<=_;rw[zgQ];have:=zg4 I G E;simp;omega
theorem zdL{w0 G:World}{a':Option Addr}{c' n:Nat}(l:List Bs)(hn:n=l.length)(h1:1<=l.length)(O:l.length<=8)(I:l.length<=c')(hown:G.ownsRow w0.heap.size 9 1 (.slice a' l.length c') l.length (strV l))(E:(Lib.join l [32]).length<=10000000000) :
  Calls Tryz.prog 72 #[.slice a' n c'] G fun e w'=>e=.returned (.string (mkS (40 :: (Lib.join l [32] ++ [41]))))/\Below G.heap.size G w':=by
 subst hn;obtain ⟨b,rfl,hs,hb⟩:=StrC.owns hown h1;exact zeh b 0 c' l G hs hb (by omega) I E
theorem zop(x:Ac)(a_args:Option Addr)(c_args:Nat){es:List Ex}{S:List Sp}(hT:ExT es S)(hx:AcT es x)(a:Option Addr)(c:Nat)(q:Option Nat)(w:World)
  (hE:zbG q w a es) (hI:zbL q w a_args x.args) (hV:zcI w) :
  Calls Tryz.prog 33 #[.agg #[.int .i64 x.kind,.int .i64 x.k,.string x.cls,.slice a_args x.args.length c_args],.slice a es.length c] w fun e w'=>e=.returned (.string (mkS (txA es x)))/\Below w.heap.size w w':=by
 have aq:=hx.cases;obtain ⟨_,af,ab⟩:=hx;have al:=zHB w;rcases aq with ⟨k,hs⟩ | ⟨k,hk,he⟩ | ⟨k,hk⟩ | ⟨k,he⟩
 ·obtain ⟨cb,ag⟩:∃ cb,x.cls=mkS cb:=⟨bsOf x.cls,(zb2 _).symm⟩
  have HX:Hid (40 :: (addB ++ 32 :: (cb ++ zaG es x.args) ++ [41])=txA es x):=show _=_ from by unfold txA zbe;rw[if_pos k,ag,zbX];simp
  have HJ:=hidX (zgk hT af ab addB cb (by decide) (by rw[ag,zad]at hs;omega));have HE:=hidX hE;have HI:=hidX hI;have HV:=hidX hV;have aj:=hidX ab;rw[k,ag];clear hE hI hV ab hs k ag;go_enter Tryz.func33,Tryz.ntmps33;go_upto_region 3 with fail
  refine zaf ?_;intro Z I O;have c0:Z.cell? ⟨w.heap.size,0,none⟩=some (.int .i64 1):=by simp[World.cell?,O]
  have c1:Z.cell? ⟨w.heap.size,1,none⟩=some (.int .i64 x.k):=by simp[World.cell?,O]
  have c2:Z.cell? ⟨w.heap.size,2,none⟩=some (.string (mkS cb)):=by simp[World.cell?,O]
  have c3:Z.cell? ⟨w.heap.size,3,none⟩=some (.slice a_args x.args.length c_args):=by simp[World.cell?,O]
  have au:w.heap.size<Z.heap.size:=zab O;clear O;have G:=zHB Z;go_wp2_with (go_at_call 73;refine (zj5 1 x.k (mkS cb) x.args a_args c_args hT af aj.out a c q Z _ (G _) (HE.out.below I) (HI.out.below I) (HV.out.below I) (some ⟨Z.heap.size,0,none⟩) 2 [addB,cb] (by simp) (zgG (L:=strV [addB,cb]) (heap_alloc_new _ _) (Nat.le_refl _) (by simp[strV]))).mono ?_;rintro e w1 ⟨a',c',rfl,ak,ao,X⟩;refine Hid.out ?_);refine hidX ?_;go_wp2_with (go_at_call 72;refine (zdL ([addB,cb] ++ x.args.map fun i=>txE 60 es i.toNat) (by simp) (by simp) (by simp;omega) ak ao HJ.out).mono ?_;rintro e w2 ⟨rfl,U⟩);go_ret;refine ⟨zb6 ?_,I.trans ((X.trans (U.mono X.size)).mono I.size)⟩;rw[<- HX.out];show 40 :: (Lib.join (addB :: cb :: x.args.map fun i=>txE 60 es i.toNat) [32] ++ [41])=_;rw[zgQ]
 ·have HX:Hid (40 :: (zeO ++ 32 :: Lib.itoa x.k ++ [41])=txA es x):=show _=_ from by unfold txA zbe;rw[if_neg (by omega),if_pos k,he];simp[zaG]
  have HL:=hidX (show (Lib.join [zeO,Lib.itoa x.k] [32]).length<=10000000000 by rw[zgq];have:=Lib.itoa_length_le _ hk.1 hk.2;simp[zeO];omega);have HV:=hidX (fun o=>hV.below (al o));rw[k];clear hE hI hV ab he k;go_enter Tryz.func33,Tryz.ntmps33;go_wp2_with (go_at_call 74;refine (zlx x.k _ (HV.out _) hk).mono ?_;rintro e w1 ⟨rfl,X⟩;refine Hid.out ?_);refine hidX ?_;have G:=zHB w1;go_wp2_with (go_at_call 72;refine (zeh w1.heap.size 0 2 [zeO,Lib.itoa x.k] _ (StrC.block (heap_alloc_new _ _)) (by simp) (by simp) (by simp) HL.out).mono ?_;rintro e w2 ⟨rfl,U⟩);go_ret;refine ⟨zb6 ?_,(al _).trans ((X.trans (((G _).trans (U.mono (G _).size)).mono X.size)).mono (al _).size)⟩;rw[<- HX.out,zgq]
 ·have HX:Hid (40 :: (modB ++ 32 :: (Lib.itoa x.k ++ zaG es x.args) ++ [41])=txA es x):=show _=_ from by unfold txA zbe;rw[if_neg (by omega),if_neg (by omega),if_pos k];simp
  have HJ:=hidX (zgk hT af ab modB (Lib.itoa x.k) (by decide) (by have:=Lib.itoa_length_le _ hk.1 hk.2;omega));have HE:=hidX hE;have HI:=hidX hI;have HV:=hidX hV;have aj:=hidX ab;rw[k];clear hE hI hV ab k;go_enter Tryz.func33,Tryz.ntmps33;go_upto_region 7 with fail
  refine zaf ?_;intro Z I O;have c0:Z.cell? ⟨w.heap.size,0,none⟩=some (.int .i64 3):=by simp[World.cell?,O]
  have c1:Z.cell? ⟨w.heap.size,1,none⟩=some (.int .i64 x.k):=by simp[World.cell?,O]
  have c2:Z.cell? ⟨w.heap.size,2,none⟩=some (.string x.cls):=by simp[World.cell?,O]
  have c3:Z.cell? ⟨w.heap.size,3,none⟩=some (.slice a_args x.args.length c_args):=by simp[World.cell?,O]
  clear O;have ap:=hidX (HV.out.below (I.drew));refine wp_region_noPanic ?_;refine wp_region_held_drew (S:=(fun w'=>w'.cell? ⟨w.heap.size,0,none⟩=some (.int .i64 3)/\w'.cell? ⟨w.heap.size,1,none⟩=some (.int .i64 x.k)/\w'.cell? ⟨w.heap.size,2,none⟩=some (.string x.cls)/\w'.cell? ⟨w.heap.size,3,none⟩=some (.slice a_args x.args.length c_args))) (by kernel_rfl) ?_ (fun E=>?_)
  ·(try dsimp only);exact ⟨c0,c1,c2,c3⟩
  refine tk 0 E ?_;(try simp only[pA,pZ,pS]);refine tk 1 E ?_;(try simp only[pA,pZ,pS]);refine tk 2 E ?_;(try simp only[pA,pZ,pS]);refine tk 3 E ?_;(try simp only[pA,pZ,pS]);refine wpAnyH_ready (rs:=[4]) (by kernel_rfl) (by simp) ?_;refine AllReadyH.cons (List.getElem?_toArray.trans rfl) (fun K hK=>?_) AllReadyH.nil;go_simp
  go_at_call 74;refine (zlx x.k _ ap.out hk).mono ?_;rintro e' w1 ⟨rfl,X⟩
  (try go_wp2_with fail);refine hK.out _ _ (by (try dsimp only);exact ⟨zaa X E.1,zaa X E.2.1,zaa X E.2.2.1,zaa X E.2.2.2⟩) fun hQ=>?_;replace E:=hQ;clear hK K hQ;(try simp only[pA,pZ,pS,pN]);have G:=zHB w1;have ah:=E;have ae:Below w.heap.size w w1:=I.trans (((Below.refl Z.heap.size Z).drew.trans (X.mono (by simp))).mono I.size);refine wpAnyH_ready (rs:=[5]) (by kernel_rfl) (by simp) ?_;refine AllReadyH.cons (List.getElem?_toArray.trans rfl) (fun K hK=>?_) AllReadyH.nil;go_simp;refine hK.out _ _ (by (try dsimp only);exact ⟨zaa (G _) E.1,zaa (G _) E.2.1,zaa (G _) E.2.2.1,zaa (G _) E.2.2.2⟩) fun hQ=>?_;replace E:=hQ;clear hK K hQ;(try simp only[pA,pZ,pS,pN]);refine wpAnyH_ready (rs:=[6]) (by kernel_rfl) (by simp) ?_;refine AllReadyH.cons (List.getElem?_toArray.trans rfl) (fun K hK=>?_) AllReadyH.nil;go_simp
  go_at_call 73;refine (zj5 3 x.k x.cls x.args a_args c_args hT af aj.out a c q w1 _ (G _) (HE.out.below ae) (HI.out.below ae) (HV.out.below ae) (some ⟨w1.heap.size,0,none⟩) 2 [modB,Lib.itoa x.k] (by simp) (zgG (L:=strV [modB,Lib.itoa x.k]) (heap_alloc_new _ _) (Nat.le_refl _) (by simp[strV]))).mono ?_;rintro e' w2 ⟨a',c',rfl,ak,ar,U⟩
  (try go_wp2_with fail);refine hK.out _ _ (by (try dsimp only);exact ⟨zaa U ah.1,zaa U ah.2.1,zaa U ah.2.2.1,zaa U ah.2.2.2⟩) fun hQ=>?_;replace E:=hQ;clear hK K hQ;(try simp only[pA,pZ,pS,pN]);refine wpAnyH_ready (rs:=[7]) (by kernel_rfl) (by simp) ?_;refine AllReadyH.cons (List.getElem?_toArray.trans rfl) (fun K hK=>?_) AllReadyH.nil;go_simp
  go_at_call 72;refine (zdL ([modB,Lib.itoa x.k] ++ x.args.map fun i=>txE 60 es i.toNat) (by simp) (by simp) (by simp;omega) ak ar HJ.out).mono ?_;rintro e' w3 ⟨rfl,ad⟩
  (try go_wp2_with fail);refine hK.out _ _ (by (try dsimp only);exact ⟨zaa ad E.1,zaa ad E.2.1,zaa ad E.2.2.1,zaa ad E.2.2.2⟩) fun hQ=>?_;replace E:=hQ;clear hK K hQ;(try simp only[pA,pZ,pS,pN]);refine tk 8 E ?_;(try simp only[pA,pZ,pS]);refine wpAnyH_done (by kernel_rfl) ?_ _;refine NoPanic.normal ?_;go_wp2;go_ret;refine ⟨zb6 ?_,ae.trans ((U.trans (ad.mono U.size)).mono ae.size)⟩;rw[<- HX.out];show 40 :: (Lib.join (modB :: Lib.itoa x.k :: x.args.map fun i=>txE 60 es i.toNat) [32] ++ [41])=_;rw[zgQ]
 have HX:Hid (40 :: (zg6 ++ [41])=txA es x):=show _=_ from by unfold txA zbe;rw[if_neg (by omega),if_neg (by omega),if_neg (by omega),he];simp[zaG]
 have HL:=hidX (show (Lib.join [zg6] [32]).length<=10000000000 by rw[Lib.join_one];decide);rw[k];clear hE hI hV ab he k;go_enter Tryz.func33,Tryz.ntmps33;go_upto_region 8 with fail
 refine zaf ?_;intro Z I _;have G:=zHB Z;go_wp2_with (go_at_call 72;refine (zeh Z.heap.size 0 1 [zg6] _ (StrC.block (heap_alloc_new _ _)) (by simp) (by simp) (by simp) HL.out).mono ?_;rintro e w2 ⟨rfl,U⟩);go_ret;refine ⟨zb6 ?_,I.trans (((G _).trans (U.mono (G _).size)).mono I.size)⟩;rw[<- HX.out,Lib.join_one]
theorem zo1(p:Pt)(pre:List Bs)(h:pre=(if p.neg then [notX,bsOf p.cls] else [bsOf p.cls])):40 :: (Lib.join (pre ++ p.terms.map txT) [32] ++ [41])=txP p:=by
 subst h;unfold txP
 cases p.neg
 ·show 40 :: (Lib.join (bsOf p.cls :: p.terms.map txT) [32] ++ [41])=_;rw[zmo];simp
 show 40 :: (Lib.join (notX :: bsOf p.cls :: p.terms.map txT) [32] ++ [41])=_;rw[zkG];simp
theorem zoc(p:Pt)(U:Option Addr)(Z:Nat)(hp:PtT p)(q:Option Nat)(w:World)(hE:zfP q w U p.terms)(hV:zcI w) :
  Calls Tryz.prog 32 #[.agg #[.bool p.neg,.string p.cls,.slice U p.terms.length Z]] w fun e w'=>e=.returned (.string (mkS (txP p)))/\Below w.heap.size w w':=by
 obtain ⟨aN,aQ,aF⟩:=hp.get;obtain ⟨cb,az⟩:∃ cb,p.cls=mkS cb:=⟨bsOf p.cls,(zb2 _).symm⟩
 have ab:=zo1 p;have aJ:=zoy hp;have HE:=hidX hE;have HV:=hidX hV;have HT:=hidX aF;rw[az,zbX]at ab;rw[az];clear hE hV aF aN hp az;rcases (show p.neg=false∨p.neg=true by cases p.neg <;> simp) with hng | hng
 ·have HX:=hidX (ab [cb] (by rw[hng];rfl));have HL:=hidX (show (Lib.join ([cb] ++ p.terms.map txT) [32]).length<=10000000000 by have h1:=congrArg List.length HX.out;simp only[List.length_cons,List.length_append,List.length_nil]at h1 ⊢;omega);rw[hng];clear ab aJ hng;go_enter Tryz.func32,Tryz.ntmps32;go_upto_region 4 with fail
  refine zaf ?_;intro G ad I;have X:w.heap.size<G.heap.size:=zab I;have c1:G.cell? ⟨w.heap.size,1,none⟩=some (.string (mkS cb)):=by simp[World.cell?,I]
  have c2:G.cell? ⟨w.heap.size,2,none⟩=some (.slice U p.terms.length Z):=by simp[World.cell?,I]
  clear I;go_wp2_with (at_builtin;refine zag (by rfl) (.tmp 11) (.tmp 14) 75 (by rfl) G.heap.size 9 _ 1 16 Tryz.underlying75 zfe (by rfl) (by omega) _ 0 _ (by rfl) (World.ownsRow_nil _ _ _ _) (some ⟨G.heap.size,0,none⟩) 1 1 (by rfl) [.string (mkS cb)] (by rfl) (fun e=>by cases e) (zas _ _ _ _ rfl) (by simp[Value.oneCell']) (by unfold maxLen;omega) (by omega) (by first | (simp;done) | (simp;omega)) ?_;intro a2 al w2 ao ae aq;refine Hid.out ?_);refine hidX ?_;have O:=hidX (((Below.refl G.heap.size G).alloc (Nat.le_refl _) _).grown ae.out (by simp) (fun j hj=>by cases hj));have e2:w2.cell? ⟨w.heap.size,2,none⟩=some (.slice U p.terms.length Z):=(O.out.cell (p:=⟨w.heap.size,2,none⟩) X).trans c2;have ax:=O.out.size;have ag:=hidX (show w2.ownsRow G.heap.size 9 1 (.slice a2 1 al) 1 (strV [cb]) from ao.out);clear ao ae aq;go_wp2
  go_loopw [3,19] (fun sv iv wr=>∃ (k:Nat) (a':Option Addr) (c':Nat),k<=p.terms.length/\iv=.int .i64 (k:Int)/\sv=.slice a' (1+k) c'/\wr.ownsRow G.heap.size 9 1 (.slice a' (1+k) c') (1+k) (strV ([cb] ++ (p.terms.take k).map txT))/\Below G.heap.size G wr) (fun _ iv _=>p.terms.length - (intOf iv).toNat)
  case atStart=>exact ⟨0,a2,al,Nat.zero_le _,rfl,rfl,by simpa using ag.out,O.out⟩
  case round=>
   obtain ⟨k,a',c',hk,rfl,rfl,hown,hb⟩:=hrel;have HR:=hidX hown;have HB:=hidX hb;have hsz:=hb.size;have HW:=hidX (ad.trans (hb.mono ad.size));clear hown hb e2 ax ag O;by_cases aD:k<p.terms.length
   ·obtain ⟨t,ht⟩:∃ t,p.terms[k]?=some t:=⟨p.terms[k],by simp[aD]⟩
    obtain ⟨au,aw⟩:=HT.out t (List.mem_of_getElem? ht);obtain ⟨b,o,rfl,_,t0,t1,t2,t3,t4,t5⟩:=(HE.out.below HW.out).get ht;have i0:(0:Int)<=(k:Int):=by omega
    have i1:(k:Int)<(p.terms.length:Int):=by omega
    have ay:Hid ([cb] ++ (p.terms.take (k+1)).map txT=([cb] ++ (p.terms.take k).map txT) ++ [txT t]):=show _=_ from by rw[List.take_add_one,ht];simp
    have HA:=zHA wr;have aB:=hidX (fun o=>(HV.out.below HW.out).below (HA.out o));clear ht;go_wp2_with (go_at_call 71;refine (zjI t _ (aB.out _) au aw).mono ?_;rintro e w3 ⟨rfl,ah⟩;refine Hid.out ?_);refine hidX ?_;have E:=(HA.out _).trans (ah.mono (HA.out _).size);have aj:=hidX (zao HR.out E);have aC:=hidX (HB.out.trans (E.mono hsz));have aO:=E.size;clear ah E t0 t1 t2 t3 t4 t5;go_wp2_with (at_builtin;refine zag (by rfl) (.tmp 23) (.tmp 26) 75 (by rfl) G.heap.size 9 _ 1 16 Tryz.underlying75 zfe (by rfl) (by omega) _ (1+k) _ (by rfl) (zao aj.out ((Below.refl _ _).alloc (Nat.le_refl _) _)) (some ⟨w3.heap.size,0,none⟩) 1 1 (by rfl) [.string (mkS (txT t))] (by rfl) (fun e=>by cases e) (zas _ _ _ _ rfl) (by simp[Value.oneCell']) (by unfold maxLen;omega) (by omega) (by first | (simp;done) | (simp;omega)) ?_;intro a4 c4 w4 ap ar aK);have aE:=hidX ((aC.out.alloc (by omega) _).grown ar.out (by simp;omega) (fun j hj=>(aj.out.lt j hj).1));go_wp2;go_roundw
    case rel=>exact ⟨k+1,a4,c4,by omega,by go_num,by rw[Nat.add_assoc],zdy ap.out ay.out (by omega),aE.out⟩
    case measure=>(simp[intOf];omega)
   obtain rfl:k=p.terms.length:=by omega
   have i1:¬ (p.terms.length:Int)<(p.terms.length:Int):=by omega
   have h:=HR.out;rw[List.take_length]at h;have en:1+p.terms.length=([cb] ++ p.terms.map txT).length:=by simp;omega
   have hc:=zgy h;rw[en]at h hc;have HF:=hidX h;have af:=hidX en;clear h en;go_wp2_with (go_at_call 72;refine (zdL ([cb] ++ p.terms.map txT) af.out (by simp) (by rw[<- af.out];omega) hc HF.out HL.out).mono ?_;rintro e w5 ⟨rfl,aA⟩);go_ret;exact ⟨zb6 HX.out,HW.out.trans (aA.mono HW.out.size)⟩
 have HX:=hidX (ab [notX,cb] (by rw[hng];rfl));have HL:=hidX (show (Lib.join ([notX,cb] ++ p.terms.map txT) [32]).length<=10000000000 by have h1:=congrArg List.length HX.out;simp only[List.length_cons,List.length_append,List.length_nil]at h1 ⊢;omega);rw[hng];clear ab aJ hng;go_enter Tryz.func32,Tryz.ntmps32;go_upto_region 3 with fail
 refine zaf ?_;intro G ad I;have X:w.heap.size<G.heap.size:=zab I;have c1:G.cell? ⟨w.heap.size,1,none⟩=some (.string (mkS cb)):=by simp[World.cell?,I]
 have c2:G.cell? ⟨w.heap.size,2,none⟩=some (.slice U p.terms.length Z):=by simp[World.cell?,I]
 clear I;go_wp2_with (at_builtin;refine zag (by rfl) (.tmp 8) (.tmp 9) 75 (by rfl) G.heap.size 9 _ 1 16 Tryz.underlying75 zfe (by rfl) (by omega) _ 0 _ (by rfl) (World.ownsRow_nil _ _ _ _) (some ⟨G.heap.size,0,none⟩) 1 1 (by rfl) [.string (mkS notX)] (by rfl) (fun e=>by cases e) (zas _ _ _ _ rfl) (by simp[Value.oneCell']) (by unfold maxLen;omega) (by omega) (by first | (simp;done) | (simp;omega)) ?_;intro a1 aP w1 aG aH aM;refine Hid.out ?_);refine hidX ?_;have ak:=hidX (((Below.refl G.heap.size G).alloc (Nat.le_refl _) _).grown aH.out (by simp) (fun j hj=>by cases hj));have d1:w1.cell? ⟨w.heap.size,1,none⟩=some (.string (mkS cb)):=(ak.out.cell (p:=⟨w.heap.size,1,none⟩) X).trans c1;have d2:w1.cell? ⟨w.heap.size,2,none⟩=some (.slice U p.terms.length Z):=(ak.out.cell (p:=⟨w.heap.size,2,none⟩) X).trans c2;have aL:=ak.out.size;have aI:=hidX aG.out;clear c1 c2 aG aH aM;go_wp2_with (at_builtin;refine zag (by rfl) (.tmp 11) (.tmp 14) 75 (by rfl) G.heap.size 9 _ 1 16 Tryz.underlying75 zfe (by rfl) (by omega) _ 1 _ (by rfl) (zao aI.out ((Below.refl _ _).alloc (Nat.le_refl _) _)) (some ⟨w1.heap.size,0,none⟩) 1 1 (by rfl) [.string (mkS cb)] (by rfl) (fun e=>by cases e) (zas _ _ _ _ rfl) (by simp[Value.oneCell']) (by unfold maxLen;omega) (by omega) (by first | (simp;done) | (simp;omega)) ?_;intro a2 al w2 ao ae aq;have O:=hidX ((ak.out.alloc aL _).grown ae.out (by simp;omega) (fun j hj=>(aI.out.lt j hj).1));refine Hid.out ?_);refine hidX ?_;have e2:w2.cell? ⟨w.heap.size,2,none⟩=some (.slice U p.terms.length Z):=(O.out.cell (p:=⟨w.heap.size,2,none⟩) X).trans ((ak.out.cell (p:=⟨w.heap.size,2,none⟩) X).symm.trans d2);have ax:=O.out.size;have ag:=hidX (show w2.ownsRow G.heap.size 9 1 (.slice a2 2 al) 2 (strV [notX,cb]) from ao.out);clear ao ae aq;go_wp2
 go_loopw [3,19] (fun sv iv wr=>∃ (k:Nat) (a':Option Addr) (c':Nat),k<=p.terms.length/\iv=.int .i64 (k:Int)/\sv=.slice a' (2+k) c'/\wr.ownsRow G.heap.size 9 1 (.slice a' (2+k) c') (2+k) (strV ([notX,cb] ++ (p.terms.take k).map txT))/\Below G.heap.size G wr) (fun _ iv _=>p.terms.length - (intOf iv).toNat)
 case atStart=>exact ⟨0,a2,al,Nat.zero_le _,rfl,rfl,by simpa using ag.out,O.out⟩
 case round=>
  obtain ⟨k,a',c',hk,rfl,rfl,hown,hb⟩:=hrel;have HR:=hidX hown;have HB:=hidX hb;have hsz:=hb.size;have HW:=hidX (ad.trans (hb.mono ad.size));clear hown hb e2 ax ag O;by_cases aD:k<p.terms.length
  ·obtain ⟨t,ht⟩:∃ t,p.terms[k]?=some t:=⟨p.terms[k],by simp[aD]⟩
   obtain ⟨au,aw⟩:=HT.out t (List.mem_of_getElem? ht);obtain ⟨b,o,rfl,_,t0,t1,t2,t3,t4,t5⟩:=(HE.out.below HW.out).get ht;have i0:(0:Int)<=(k:Int):=by omega
   have i1:(k:Int)<(p.terms.length:Int):=by omega
   have ay:Hid ([notX,cb] ++ (p.terms.take (k+1)).map txT=([notX,cb] ++ (p.terms.take k).map txT) ++ [txT t]):=show _=_ from by rw[List.take_add_one,ht];simp
   have HA:=zHA wr;have aB:=hidX (fun o=>(HV.out.below HW.out).below (HA.out o));clear ht;go_wp2_with (go_at_call 71;refine (zjI t _ (aB.out _) au aw).mono ?_;rintro e w3 ⟨rfl,ah⟩;refine Hid.out ?_);refine hidX ?_;have E:=(HA.out _).trans (ah.mono (HA.out _).size);have aj:=hidX (zao HR.out E);have aC:=hidX (HB.out.trans (E.mono hsz));have aO:=E.size;clear ah E t0 t1 t2 t3 t4 t5;go_wp2_with (at_builtin;refine zag (by rfl) (.tmp 23) (.tmp 26) 75 (by rfl) G.heap.size 9 _ 1 16 Tryz.underlying75 zfe (by rfl) (by omega) _ (2+k) _ (by rfl) (zao aj.out ((Below.refl _ _).alloc (Nat.le_refl _) _)) (some ⟨w3.heap.size,0,none⟩) 1 1 (by rfl) [.string (mkS (txT t))] (by rfl) (fun e=>by cases e) (zas _ _ _ _ rfl) (by simp[Value.oneCell']) (by unfold maxLen;omega) (by omega) (by first | (simp;done) | (simp;omega)) ?_;intro a4 c4 w4 ap ar aK);have aE:=hidX ((aC.out.alloc (by omega) _).grown ar.out (by simp;omega) (fun j hj=>(aj.out.lt j hj).1));go_wp2;go_roundw
   case rel=>exact ⟨k+1,a4,c4,by omega,by go_num,by rw[Nat.add_assoc],zdy ap.out ay.out (by omega),aE.out⟩
   case measure=>(simp[intOf];omega)
  obtain rfl:k=p.terms.length:=by omega
  have i1:¬ (p.terms.length:Int)<(p.terms.length:Int):=by omega
  have h:=HR.out;rw[List.take_length]at h;have en:2+p.terms.length=([notX,cb] ++ p.terms.map txT).length:=by simp;omega
  have hc:=zgy h;rw[en]at h hc;have HF:=hidX h;have af:=hidX en;clear h en;go_wp2_with (go_at_call 72;refine (zdL ([notX,cb] ++ p.terms.map txT) af.out (by simp) (by rw[<- af.out];omega) hc HF.out HL.out).mono ?_;rintro e w5 ⟨rfl,aA⟩);go_ret;exact ⟨zb6 HX.out,HW.out.trans (aA.mono HW.out.size)⟩
theorem zc7(a a':Option Addr)(c c':Nat)(xs:List Ru)(w:World)(hv:zdD none w a xs)(ap:zdD none w a' xs)(hs:zb3 Ru.lq 1048576 xs) :
  Calls Tryz.prog 8 #[.slice a xs.length c,.slice a' xs.length c'] w fun e w'=>
   e=.returned (.bool true)/\Below w.heap.size w w':=by
 obtain ⟨hl,hs⟩:=hs;go_enter Tryz.func8,Tryz.ntmps8;go_wp2
 go_loopw [13] (fun i wr=>∃ (k:Nat),k<=xs.length/\i=.int .i64 k/\Below w.heap.size w wr) (fun i _=>xs.length - (intOf i).toNat)
 case atStart=>exact ⟨0,by omega,rfl,Below.refl _ _⟩
 case round=>
  obtain ⟨k,hk,rfl,hb⟩:=hrel;by_cases aq:k<xs.length
  ·obtain ⟨x,aj⟩:∃ x,xs[k]?=some x:=⟨xs[k],by simp[aq]⟩
   obtain ⟨b,o,a_pats,c_pats,a_exprs,c_exprs,a_acts,c_acts,rfl,hq,c0,c1,c2,c3,c4,ag,ad,af,ak⟩:=(hv.below hb).get aj;obtain ⟨b',o',I,U,E,G,X,O,rfl,ar,d0,d1,d2,d3,d4,ab,Z,ae,ah⟩:=(ap.below hb).get aj;have z0:(0:Int)<=(k:Int):=by omega
   have z1:(k:Int)<(xs.length:Int):=by omega
   have ao:=hs x (List.mem_of_getElem? aj);have B1:Below wr.heap.size wr wr.drew:=(Below.refl _ _).drew;go_wp2
   go_region_held3 (fun w'=>w'.cell? ⟨b,o+k * 5,none⟩=some (.string x.name)/\w'.cell? ⟨b,o+k * 5+1,none⟩=some (.int .i64 x.sal)/\w'.cell? ⟨b,o+k * 5+2,none⟩=some (.slice a_pats x.pats.length c_pats)/\w'.cell? ⟨b,o+k * 5+3,none⟩=some (.slice a_exprs x.exprs.length c_exprs)/\w'.cell? ⟨b,o+k * 5+4,none⟩=some (.slice a_acts x.acts.length c_acts)/\w'.cell? ⟨b',o'+k * 5,none⟩=some (.string x.name)/\w'.cell? ⟨b',o'+k * 5+1,none⟩=some (.int .i64 x.sal)/\w'.cell? ⟨b',o'+k * 5+2,none⟩=some (.slice I x.pats.length U)/\w'.cell? ⟨b',o'+k * 5+3,none⟩=some (.slice E x.exprs.length G)/\w'.cell? ⟨b',o'+k * 5+4,none⟩=some (.slice X x.acts.length O)) ((go_split_ands;refine ⟨?_,?_,?_,?_,?_,?_,?_,?_,?_,?_⟩ <;> first | (simp[*];done) | exact zaa al (by simp[*])))
    (first | (go_at_call 18;refine (zhz x a_pats I a_exprs E a_acts X c_pats U c_exprs G c_acts O _ (ag.below B1) (ab.below B1) (ad.below B1) (Z.below B1) (af.below B1) (ae.below B1) ao).mono ?_;rintro e w' ⟨rfl,al⟩))
   go_wp2;go_roundw
   case rel=>exact ⟨k+1,by omega,by go_num,hb.drew.trans (al.mono hb.size)⟩
   case measure=>simp[intOf];omega
  go_wp2;go_ret;exact ⟨rfl,hb⟩
end Go.Proofs.YtjjjagepnnbebaaGreatDoor
namespace Go.Proofs.YtjjjagepnnbebaaGreatDoor
def zlr:Bs:=[40,114,117,108,101,32,100,101,101,112,32,48,32,40,97,41,32,61,62,32,40,97,100,100,32,97,32]
def ziV(n:Nat):Bs:=zlr ++ zeM n ++ [41,41]
def zf7:Bs:=[40,114,117,108,101,32,97,32,48,32,61,62,41]
def zeT:Bs:=[40,114,117,108,101,32,97,32,48,32,40,97,41,32,61,62]
def addA:Bs:=[40,97,100,100,32,97,32,49,32,50,32,51,32,52,32,40,43,32,49,32,40,43,32,49,32,49,41,41,41]
def repF(p x:Bs):Nat->Bs
 | 0=>p
 | n+1=>repF p x n ++ x
theorem zhd(p x:Bs):∀ n,(repF p x n).length=p.length+x.length * n
 | 0=>rfl
 | n+1=>by
  rw[repF,List.length_append,zhd p x n,Nat.mul_succ]
  omega
def dpF(B:Bs):Bs:=
 if nxc B=255 then ziV (19+nxc B.tail % 3)
 else if nxc B=254 then repF [] zf7 17
 else if nxc B=253 then repF zeT addA 8 ++ [41]
 else (zdE (zdE (txRs (zb7 nmK 3 B.tail).1) (zb7 nmK 3 B.tail).2).1 (zdE (txRs (zb7 nmK 3 B.tail).1) (zb7 nmK 3 B.tail).2).2).1
end Go.Proofs.YtjjjagepnnbebaaGreatDoor
namespace Go.Proofs.YtjjjagepnnbebaaGreatDoor
open Go.RowKit
def BOwn(w:World)(base:Nat)(v:Value)(l:Bs):Prop:=∃ g cap cur fz,v=.slice (some ⟨g,0,none⟩) l.length cap/\base<=g/\w.heap[g]?=some (.cells cur 5 fz)/\(fz=(0,0)∨cur.size<=fz.1)/\l.length<=cap/\cap<=maxLen/\cur.size=cap/\cur.toList.take l.length=byV l
theorem BOwn.lt{w:World}{base:Nat}{v:Value}{l:Bs}(h:BOwn w base v l):∀ k,v.ownBlock=some k->base<=k/\k<w.heap.size:=by
 obtain ⟨g,cap,cur,fz,rfl,h1,h2,_⟩:=h;intro k hk;injection hk with hk;subst hk;exact ⟨h1,zab h2⟩
theorem BOwn.block{w w':World}{base:Nat}{v:Value}{l:Bs}(h:BOwn w base v l)(hb:∀ g,v.ownBlock=some g->w'.heap[g]?=w.heap[g]?):BOwn w' base v l:=by
 obtain ⟨g,cap,cur,fz,rfl,h1,h2,h3⟩:=h;exact ⟨g,cap,cur,fz,rfl,h1,(hb g rfl).trans h2,h3⟩
theorem BOwn.below{w w':World}{base:Nat}{v:Value}{l:Bs}(h:BOwn w base v l)(hb:Below w.heap.size w w'):BOwn w' base v l:=h.block fun g hg=>hb.block g (h.lt g hg).2
theorem BOwn.cells{w:World}{base:Nat}{v:Value}{l:Bs}(h:BOwn w base v l):∃ a c,v=.slice a l.length c/\zbZ w a l/\l.length<=c:=by
 obtain ⟨g,cap,cur,fz,rfl,h1,h2,h3,E,I,O,G⟩:=h;refine ⟨_,cap,rfl,fun j x hx=>⟨g,0,rfl,zab h2,?_⟩,E⟩;have hj:j<l.length:=(List.getElem?_eq_some_iff.1 hx).1;have e:(byV l)[j]?=some (.int .u8 (x.toNat:Int)):=by simp[byV,hx]
 rw[<- G,List.getElem?_take,if_pos hj]at e;simp[World.cell?,h2];simpa using e
end Go.Proofs.YtjjjagepnnbebaaGreatDoor
namespace Go.Proofs.YtjjjagepnnbebaaGreatDoor
open Go.RowKit
attribute [local go_sem ↓] Go.wp_at_zero Go.wp_at_succ
def TxA(w:World)(g:Nat)(v:Value)(l:Bs):Prop:=∃ a c,v=.slice a l.length c/\zbZ w a l/\l.length<=c/\∀ b o,a=some ⟨b,o,none⟩->b≠g/\b<w.heap.size
theorem zbZ.mko{w w':World}{g:Nat}{a:Option Addr}{l:Bs}(h:zbZ w a l)(hm:MkO (some g) w w')(hg:∀ b o,a=some ⟨b,o,none⟩->b≠g/\b<w.heap.size):zbZ w' a l:=fun j x hx=>by
 obtain ⟨b,o,e,hl,G⟩:=h j x hx;refine ⟨b,o,e,Nat.lt_of_lt_of_le hl hm.rest.size,?_⟩;rw[<- G];exact World.cell?_of_block (w:=w) (hm.block b hl (fun E=>(hg b o e).1 (by injection E with E;exact E.symm)))
theorem TxA.rs{w w':World}{g:Nat}{v:Value}{l r:Bs}(h:TxA w g v l)(hr:Rs g r w w'):TxA w' g v l:=by
 obtain ⟨a,c,rfl,h1,h2,h3⟩:=h;exact ⟨a,c,rfl,h1.mko hr.1 h3,h2,fun b o e=>⟨(h3 b o e).1,Nat.lt_of_lt_of_le (h3 b o e).2 hr.1.rest.size⟩⟩
theorem zbZ.take{w:World}{a:Option Addr}{l:Bs}(h:zbZ w a l)(k:Nat):zbZ w a (l.take k):=fun j x hx=>by
 rw[List.getElem?_take]at hx;split at hx
 ·exact h j x hx
 cases hx
theorem zbZ.drop{w:World}{b o:Nat}{l:Bs}(h:zbZ w (some ⟨b,o,none⟩) l)(k:Nat):zbZ w (some ⟨b,o+k,none⟩) (l.drop k):=fun j x hx=>by
 rw[List.getElem?_drop]at hx;obtain ⟨G,o',e,hl,E⟩:=h (k+j) x hx;injection e with e;injection e with e1 e2;subst e1;subst e2;exact ⟨_,_,rfl,hl,by rw[Nat.add_assoc];exact E⟩
theorem zfr{w:World}{sp:Option Addr}{l:Bs}(h:zbZ w sp l):∀ a,sp=some a->∀ j u,(byV l)[j]?=some u->w.cell? (a.add j)=some u:=by
 intro a e j u hj;simp only[byV,List.getElem?_map,Option.map_eq_some_iff]at hj;obtain ⟨x,hx,rfl⟩:=hj;obtain ⟨b,o,E,_,G⟩:=h j x hx;rw[e]at E;injection E with E;rw[E,Addr.add_lit];exact G
theorem zgK(l:Bs):∀ u∈byV l,u.oneCell'=true:=fun u E=>by
 simp only[byV,List.mem_map]at E;obtain ⟨x,_,rfl⟩:=E;rfl
theorem zkJ{w:World}{g base n c:Nat}{a:Option Addr}{l:Bs}(h:w.ownsRow base 5 1 (.slice a n c) n (byV l))(hn:n=l.length)(hg:g<base):TxA w g (.slice a n c) l:=by
 subst hn;refine ⟨a,c,rfl,zbZ.owns h,?_,fun b o e=>?_⟩
 ·rcases h.2 with ⟨e,G⟩ | ⟨_,cap,_,e,_,_,E,_⟩
  ·omega
  injection e with _ _ e;omega
 have:=h.lt b (by rw[e];rfl);exact ⟨by omega,this.2⟩
theorem zpp{w:World}{b:Nat}{t:TypeId}{cs:Array Value}{j:Nat}(h:w.heap[b]?=some (.cells cs t (0,0))):w.cell? ⟨b,j,none⟩=cs[j]?:=by simp[World.cell?,h]
theorem zf6:(Tryz.prog.info? 5).map (fun i=>(i.zero,i.size,i.bytes))=some (some (.int .u8 0),1,1):=by kernel_rfl
theorem index15(b n:Nat):∀ u:World,(Instr.indexAt 75 (.slice (some ⟨b,0,none⟩) 15 15) (.int .i64 ((n:Int) % 15))).run Tryz.prog u=.ok (.pointer (some ⟨b,n % 15,none⟩)) u:=fun u=>by
 have e:(n:Int) % 15=((n % 15:Nat):Int):=by omega
 have h1:Tryz.prog.elem 75=9:=by kernel_rfl
 have h2:(sizeOf 9).run Tryz.prog u=.ok 1 u:=by kernel_rfl
 have h:=run_indexAt_slice (P:=Tryz.prog) (w:=u) 75 ⟨b,0,none⟩ 15 15 .i64 ((n:Int) % 15) (by kernel_rfl);rw[h1,h2,if_pos ⟨by omega,by omega⟩]at h;refine h.trans ?_;rw[e];simp[Result.andThen_ok,Addr.add_lit]
theorem zqX(m:Nat)(h:m<15):(ziU.map fun x=>Value.string (mkS x)).toArray[m]?=some (.string (mkS (ziU.getD m []))):=by
 have h2:m<ziU.length:=h;simp[List.getD,List.getElem?_eq_getElem h2]
theorem zhC(g:Nat)(s l:Bs)(v:Value)(w:World)(h:Rdr w g l)(hs:TxA w g v s)(hl:s.length<=1000000) :
  Calls Tryz.prog 26 #[.pointer (some ⟨g,0,none⟩),v] w fun e w'=>∃ v',e=.returned v'/\TxA w' g v' (zdE s l).1/\Rs g (zdE s l).2 w w':=by
 have HS:=hidR hs;obtain ⟨a,c,rfl,hb,hc,hg⟩:=hs;have H:=hidR h;have aY:=h.lt;clear h hb hg;go_enter Tryz.func26,Tryz.ntmps26;go_wp2_with fail
 refine (zbQ g l w H.out).mono ?_;rintro e w1 ⟨n1,a1,rfl,aC,ad⟩;have R1:=hidR aC;clear aC H;by_cases h3:n1 % 3=0
 ·have i3:(n1:Int) % 3=0:=by omega
  go_wp2_with fail
  go_ret;have e:zdE s l=(s,l.tail):=by unfold zdE;rw[ad.out];exact if_pos (.inl h3)
  rw[e];exact ⟨.slice a s.length c,by first | rfl | simp,HS.out.rs R1.out,R1.out⟩
 have i3:((n1:Int) % 3==0)=false:=beq_eq_false_iff_ne.2 (by omega);by_cases h0:s.length=0
 ·have i0:(s.length:Int)=0:=by omega
  go_wp2_with fail
  go_ret;have e:zdE s l=(s,l.tail):=by unfold zdE;exact if_pos (.inr h0)
  rw[e];have aG:=HS.out.rs R1.out;rw[h0]at aG;exact ⟨_,rfl,aG,R1.out⟩
 have i0:((s.length:Int)==0)=false:=beq_eq_false_iff_ne.2 (by omega);go_wp2_with fail
 refine (zbQ g _ w1 R1.out.2).mono ?_;rintro e w2 ⟨n2,aX,rfl,aE,aF⟩;have R2:=hidR (R1.out.trans aE);clear aE;go_wp2_with fail
 refine (zbQ g _ w2 R2.out.2).mono ?_;rintro e w3 ⟨n3,a7,rfl,az,ax⟩;have R3:=hidR (R2.out.trans az);clear az;have aI:0<s.length:=by omega
 obtain ⟨k,hk⟩:∃ k,k=(n2 * 256+n3) % s.length:=⟨_,rfl⟩
 have aJ:((n2:Int) * 256+(n3:Int)) % (s.length:Int)=(k:Int):=by rw[hk];push_cast;rfl
 have ba:k<s.length:=by rw[hk];exact Nat.mod_lt _ aI
 have HA:=zHA w3;have HB:=hidR (fun o=>R3.out.2.bel (HA.out o));have aQ:=hidR aJ;have aB:=hidR hk;clear aJ hk;go_wp2_with fail
 rw[aQ.out];refine (zbQ g _ _ (HB.out _)).mono ?_;rintro e O ⟨n5,aW,rfl,ag,aO⟩;have aM:g≠w3.heap.size:=Nat.ne_of_lt R3.out.2.lt;have R5:=hidR ((R3.out.bel (HA.out _)).trans ag);have aq:O.heap[w3.heap.size]?=_:=(ag.1.block _ (by simp) (fun e=>aM (by injection e))).trans (heap_alloc_new _ _);obtain ⟨m,hm⟩:∃ m,m=n5 % 15:=⟨_,rfl⟩
 have aR:(n5:Int) % 15=(m:Int):=by omega
 have aN:m<15:=by omega
 obtain ⟨E,I⟩:∃ E,E=ziU.getD m []:=⟨_,rfl⟩
 have U:O.cell? ⟨w3.heap.size,m,none⟩=some (.string (mkS E)):=by
  rw[zpp aq,I];exact zqX m aN
 have aS:=zk4 m;rw[<- I]at aS;have S5:=hidR (HS.out.rs R5.out);have m0:(0:Int)<=(m:Int):=by omega
 have m1:(m:Int)<15:=by omega
 clear ag aq HA HB R3 R2 R1 HS;obtain ⟨a0,c0,e0,aj,_,aH⟩:=S5.out;injection e0 with e1 _ e2;subst e1;subst e2;obtain ⟨x0,au⟩:∃ x,s[0]?=some x:=⟨s[0],by simp[aI]⟩
 obtain ⟨b,o,rfl,bd,aP⟩:=aj 0 x0 au;have af:=hidR aj;have bc:=(aH b o rfl).1;have k0:(0:Int)<=(k:Int):=by omega
 have k1:(k:Int)<=(c:Int):=by omega
 have aw:(byV (s.take k)).length=k * 1:=by rw[zf3,List.length_take];omega
 clear aj aH aP au x0 S5;have ap:=index15 w3.heap.size n5;rw[<- hm]at ap;have HM:=hidR hm;have ay:=hidR I;clear aR m0 m1 hm I;obtain ⟨it,hi,aK,aA,ar⟩:=info_parts zf6;have HI:=hidR (show Tryz.prog.info? 5=some it/\it.zero=some (.int .u8 0)/\it.size=1/\it.bytes=1 from ⟨hi,aK,aA,ar⟩);clear hi aK aA ar;by_cases hn:n1 % 3=1
 ·have j3:(n1:Int) % 3=1:=by omega
  have ae:Hid (zdE s l=(s.take k ++ (E ++ s.drop k),l.tail.tail.tail.tail)):=show _=_ by
   unfold zdE;rw[if_neg (by rw[ad.out];omega)];dsimp only;rw[ad.out,aF.out,ax.out,aO.out,if_pos hn,<- aB.out,<- HM.out,<- ay.out]
  go_upto_region 8 with (first | (at_builtin;refine zag (by rfl) (.tmp 35) (.tmp 38) 22 (by rfl) O.heap.size 5 _ 1 1 Tryz.underlying22 zf6 (by rfl) (by omega) _ 0 [] (by rfl) (World.ownsRow_nil _ _ _ _) (some ⟨b,o,none⟩) k c (by rfl) (byV (s.take k)) aw (fun e=>by cases e) (zfr (af.out.take k)) (zgK _) (by unfold maxLen;omega) (by omega) (Nat.le_refl _) ?_;intro a6 c6 w6 G ab ah) | fail);have B6:=hidR ((Below.refl O.heap.size O).grown ab (Nat.le_refl _) (fun j hj=>by cases hj));rw[Nat.zero_add,List.nil_append]at G;clear ab ah U ap;go_upto_region 12 with (first | (at_builtin;refine Lib.wpList_append_own_string w6 (by rfl) (.tmp 46) (.tmp 47) 22 9 (by rfl) O.heap.size 5 it Tryz.underlying22 Tryz.underlying9 HI.out.1 HI.out.2.1 HI.out.2.2.1 HI.out.2.2.2 _ k _ (by rfl) G.out (mkS E) (by rfl) (by unfold maxLen;rw[zad];omega) (by rw[zad];omega) B6.out.size ?_;intro v7 w7 ao aL _) | fail);have B7:=hidR (B6.out.grown aL B6.out.size (fun j hj=>(G.out.lt j hj).1));rw[zad,show Lib.strCells (mkS E)=byV E from rfl,<- show byV (s.take k ++ E)=byV (s.take k) ++ byV E from List.map_append]at ao;clear aL;have k2:(k:Int)<=(s.length:Int):=by omega
  have k3:(s.length:Int)<=(c:Int):=by omega
  have ak:(byV (s.drop k)).length=(s.length - k) * 1:=by rw[zf3,List.length_drop];omega
  have aT:=hidR ((af.out.below B7.out).drop k);go_wp2_with (first | (at_builtin;refine zag (by rfl) (.tmp 49) (.tmp 52) 22 (by rfl) O.heap.size 5 _ 1 1 Tryz.underlying22 zf6 (by rfl) (by omega) _ (k+E.length) (byV (s.take k ++ E)) (by rfl) ao (some ⟨b,o+k,none⟩) (s.length - k) (c - k) (by rfl) (byV (s.drop k)) ak (fun e=>by cases e) (zfr aT.out) (zgK _) (by unfold maxLen;omega) (by omega) B7.out.size ?_;intro a8 c8 w8 Z X aD) | fail);have B8:=hidR (B7.out.grown X B7.out.size (fun j hj=>(ao.lt j hj).1));go_ret;rw[ae.out];refine ⟨_,rfl,?_,R5.out.bel B8.out⟩;have hb:=Z.out;rw[<- show byV ((s.take k ++ E) ++ s.drop k)=byV (s.take k ++ E) ++ byV (s.drop k) from List.map_append,List.append_assoc]at hb;exact zkJ hb (by simp only[List.length_append,List.length_take,List.length_drop];omega) (Nat.lt_of_lt_of_le R5.out.2.lt (Nat.le_refl _))
 have j3:((n1:Int) % 3==1)=false:=beq_eq_false_iff_ne.2 (by omega);have ae:Hid (zdE s l=(s.take k ++ s.drop (k+1),l.tail.tail.tail.tail)):=show _=_ by
  unfold zdE;rw[if_neg (by rw[ad.out];omega)];dsimp only;rw[ad.out,aF.out,ax.out,if_neg hn,<- aB.out]
 go_upto_region 8 with (first | (at_builtin;refine zag (by rfl) (.tmp 35) (.tmp 38) 22 (by rfl) O.heap.size 5 _ 1 1 Tryz.underlying22 zf6 (by rfl) (by omega) _ 0 [] (by rfl) (World.ownsRow_nil _ _ _ _) (some ⟨b,o,none⟩) k c (by rfl) (byV (s.take k)) aw (fun e=>by cases e) (zfr (af.out.take k)) (zgK _) (by unfold maxLen;omega) (by omega) (Nat.le_refl _) ?_;intro a6 c6 w6 G ab ah) | fail);have B6:=hidR ((Below.refl O.heap.size O).grown ab (Nat.le_refl _) (fun j hj=>by cases hj));rw[Nat.zero_add,List.nil_append]at G;clear ab ah U ap;have k2:(k:Int)+1<=(s.length:Int):=by omega
 have k3:(s.length:Int)<=(c:Int):=by omega
 have k4:(0:Int)<=(k:Int)+1:=by omega
 have k5:((k:Int)+1).toNat=k+1:=by omega
 have ak:(byV (s.drop (k+1))).length=(s.length - (k+1)) * 1:=by rw[zf3,List.length_drop];omega
 by_cases bb:c=k+1
 ·have aV:s.length=k+1:=by omega
  have aU:s.drop (k+1)=[]:=List.drop_eq_nil_of_le (by omega);have al:Hid (zbZ w6 (some ⟨b,o,none⟩) []):=fun j x hx=>by simp at hx
  go_wp2_with (first | (at_builtin;refine zag (by rfl) (.tmp 49) (.tmp 52) 22 (by rfl) O.heap.size 5 _ 1 1 Tryz.underlying22 zf6 (by rfl) (by omega) _ k (byV (s.take k)) (by rfl) G.out (some ⟨b,o,none⟩) 0 0 (by rfl) (byV []) (by rfl) (fun e=>by cases e) (zfr al.out) (zgK _) (by unfold maxLen;omega) (by omega) B6.out.size ?_;intro a8 c8 w8 Z X aD) | fail);have B8:=hidR (B6.out.grown X B6.out.size (fun j hj=>(G.out.lt j hj).1));go_ret;rw[ae.out];refine ⟨_,rfl,?_,R5.out.bel B8.out⟩;have hb:=Z.out;rw[<- show byV (s.take k ++ [])=byV (s.take k) ++ byV [] from List.map_append]at hb;rw[aU];exact zkJ hb (by simp only[List.length_append,List.length_take,List.length_nil];omega) (Nat.lt_of_lt_of_le R5.out.2.lt (Nat.le_refl _))
 have aZ:¬ c - (k+1)=0:=by omega
 have al:=hidR ((af.out.below B6.out).drop (k+1));go_wp2_with (first | (at_builtin;refine zag (by rfl) (.tmp 49) (.tmp 52) 22 (by rfl) O.heap.size 5 _ 1 1 Tryz.underlying22 zf6 (by rfl) (by omega) _ k (byV (s.take k)) (by rfl) G.out (some ⟨b,o+(k+1),none⟩) (s.length - (k+1)) (c - (k+1)) (by rfl) (byV (s.drop (k+1))) ak (fun e=>by cases e) (zfr al.out) (zgK _) (by unfold maxLen;omega) (by omega) B6.out.size ?_;intro a8 c8 w8 Z X aD) | fail);have B8:=hidR (B6.out.grown X B6.out.size (fun j hj=>(G.out.lt j hj).1));go_ret;rw[ae.out];refine ⟨_,rfl,?_,R5.out.bel B8.out⟩;have hb:=Z.out;rw[<- show byV (s.take k ++ s.drop (k+1))=byV (s.take k) ++ byV (s.drop (k+1)) from List.map_append]at hb;exact zkJ hb (by simp only[List.length_append,List.length_take,List.length_drop];omega) (Nat.lt_of_lt_of_le R5.out.2.lt (Nat.le_refl _))
theorem zpn{P:World->Prop}{w u:World}(G:Below w.heap.size w u)(h:∀ E,Below w.heap.size w E->P E):P u:=h u G
theorem cat8(x:UInt8)(a b:Bs):({ data:=#[40] }:ByteArray) ++ mkS [x] ++ { data:=#[32] } ++ mkS a ++ { data:=#[32] } ++ mkS b ++ { data:=#[41] }=mkS (40 :: x :: 32 :: (a ++ 32 :: (b ++ [41]))):=by
 have e:∀ x:UInt8,({ data:=#[x] }:ByteArray)=mkS [x]:=fun _=>rfl;rw[e,e,e,zaV,zaV,zaV,zaV,zaV,zaV];simp
theorem zms{es:List Ex}{S:List Sp}(hT:ExT es S)(a:Option Addr)(c:Nat)(q:Option Nat)(n:Nat)
  (IH:∀ (i:Nat) (w:World),zbG q w a es->i<n->i<es.length->Calls Tryz.prog 111 #[.slice a es.length c,.int .i64 (i:Int)] w fun e w'=>e=.returned (.string (mkS (txE n es i)))/\Below w.heap.size w w')
  (i:Nat) (w:World) (hE:zbG q w a es) (hin:i<n+1) (hi:i<es.length):Calls Tryz.prog 111 #[.slice a es.length c,.int .i64 (i:Int)] w fun e w'=>e=.returned (.string (mkS (txE (n+1) es i)))/\Below w.heap.size w w':=by
 obtain ⟨e,he⟩:∃ e,es[i]?=some e:=⟨es[i],by simp[hi]⟩
 obtain ⟨b,o,rfl,_,d0,d1,d2,d3,d4,d5,d6,d7⟩:=hE.get he;have hX:=zfW n es i e he;have hn:=hT.2.2.2 e (List.mem_of_getElem? he);have HI:=hidX IH;have i0:(0:Int)<=(i:Int):=by omega
 have i1:(i:Int)<(es.length:Int):=by omega
 rcases hT.kind he with ⟨k,hv⟩ | ⟨k,hv⟩ | ⟨k,_,pa,pb,ea,eb,bi,bb⟩
 ·have HX:Hid (txV e.val=txE (n+1) es i):=show _=_ from by rw[hX,if_neg (by omega),if_neg (by omega)]
  rw[k]at d0;clear hX k he IH hE;go_enter Tryz.func111,Tryz.ntmps111;go_upto_region 4 with fail
  refine zaf ?_;intro wb I O;have c3:wb.cell? ⟨w.heap.size,3,none⟩=some (.int .i64 e.val.kind):=by simp[World.cell?,O]
  have c4:wb.cell? ⟨w.heap.size,4,none⟩=some (.int .i64 e.val.num):=by simp[World.cell?,O]
  have c5:wb.cell? ⟨w.heap.size,5,none⟩=some (.string e.val.sym):=by simp[World.cell?,O]
  clear O;go_wp2_with (go_at_call 110;refine (zfi e.val _ hn).mono ?_;rintro e' w1 ⟨rfl,aS⟩);go_ret;exact ⟨zb6 HX.out,I.trans (aS.mono I.size)⟩
 ·have HX:Hid (63 :: bsOf e.var=txE (n+1) es i):=show _=_ from by rw[hX,if_pos k]
  have hs:¬ 9223372036854775807<({ data:=#[63] }:ByteArray).size+e.var.size:=by
   have:=zdm hv;have:({ data:=#[63] }:ByteArray).size=1:=rfl;omega
  rw[k]at d0;clear hX k he IH hE;have hA:=zHB w;go_enter Tryz.func111,Tryz.ntmps111;go_wp2;go_ret;refine ⟨?_,hA _⟩;rw[<- HX.out];exact congrArg (fun x=>Ending.returned (.string x)) (zez e.var [63])
 have aJ:pa<es.length:=by omega
 have aP:pb<es.length:=by omega
 have sA:=zcH hT n pa aJ;have sB:=zcH hT n pb aP;obtain ⟨A,aw⟩:∃ A,A=txE n es pa:=⟨_,rfl⟩
 obtain ⟨B,aq⟩:∃ B,B=txE n es pb:=⟨_,rfl⟩
 have HX:Hid (40 :: UInt8.ofNat e.op.toNat :: 32 :: (A ++ 32 :: (B ++ [41]))=txE (n+1) es i):=show _=_ from by rw[hX,if_neg (by omega),if_pos k,ea,eb,aw,aq];rfl
 have HA:Hid (∀ w',zbG q w' (some ⟨b,o,none⟩) es->Calls Tryz.prog 111 #[.slice (some ⟨b,o,none⟩) es.length c,.int .i64 (pa:Int)] w' fun e aD=>e=.returned (.string (mkS A))/\Below w'.heap.size w' aD):=fun w' h=>by rw[aw];exact HI.out pa w' h (by omega) aJ
 have HB:Hid (∀ w',zbG q w' (some ⟨b,o,none⟩) es->Calls Tryz.prog 111 #[.slice (some ⟨b,o,none⟩) es.length c,.int .i64 (pb:Int)] w' fun e aD=>e=.returned (.string (mkS B))/\Below w'.heap.size w' aD):=fun w' h=>by rw[aq];exact HI.out pb w' h (by omega) aP
 rw[<- aw]at sA;rw[<- aq]at sB;rw[k]at d0;rw[ea]at d6;rw[eb]at d7;clear hX k he ea eb aw aq IH HI hn;go_enter Tryz.func111,Tryz.ntmps111;go_upto_region 7 with fail
 refine zaf ?_;intro wb I O;have c1:wb.cell? ⟨w.heap.size,1,none⟩=some (.int .u8 e.op):=by simp[World.cell?,O]
 have c6:wb.cell? ⟨w.heap.size,6,none⟩=some (.int .i64 (pa:Int)):=by simp[World.cell?,O]
 have c7:wb.cell? ⟨w.heap.size,7,none⟩=some (.int .i64 (pb:Int)):=by simp[World.cell?,O]
 have HE:=hidX (hE.below I);clear O d0 d1 d2 d3 d4 d5 d6 d7 hE;refine wp_region_noPanic ?_;refine wp_region_held_drew (S:=(fun w'=>w'.cell? ⟨w.heap.size,1,none⟩=some (.int .u8 e.op)/\w'.cell? ⟨w.heap.size,6,none⟩=some (.int .i64 (pa:Int))/\w'.cell? ⟨w.heap.size,7,none⟩=some (.int .i64 (pb:Int)))) (by kernel_rfl) ?_ (fun E=>?_)
 ·(try dsimp only);exact ⟨c1,c6,c7⟩
 refine zpn (w:=wb) (Below.refl _ _).drew ?_;intro w0 au;replace E:(fun w'=>w'.cell? ⟨w.heap.size,1,none⟩=some (.int .u8 e.op)/\w'.cell? ⟨w.heap.size,6,none⟩=some (.int .i64 (pa:Int))/\w'.cell? ⟨w.heap.size,7,none⟩=some (.int .i64 (pb:Int))) w0:=⟨zaa au c1,zaa au c6,zaa au c7⟩
 have B0:=hidX au;have aX:=hidX (fun w' (h:Below w0.heap.size w0 w')=>(show (fun w'=>w'.cell? ⟨w.heap.size,1,none⟩=some (.int .u8 e.op)/\w'.cell? ⟨w.heap.size,6,none⟩=some (.int .i64 (pa:Int))/\w'.cell? ⟨w.heap.size,7,none⟩=some (.int .i64 (pb:Int))) w' from ⟨zaa h E.1,zaa h E.2.1,zaa h E.2.2⟩));refine tk 0 E ?_;(try simp only[pA,pZ,pS]);refine tk 1 E ?_;(try simp only[pA,pZ,pS]);refine tk 6 E ?_;(try simp only[pA,pZ,pS]);refine tk 7 E ?_;(try simp only[pA,pZ,pS]);refine tk 8 E ?_;(try simp only[pA,pZ,pS]);refine tk 12 E ?_;(try simp only[pA,pZ,pS]);refine tk 13 E ?_;(try simp only[pA,pZ,pS]);refine tk 14 E ?_;(try simp only[pA,pZ,pS]);refine r2 2 9 (fun K hK=>?_) fun K hK=>?_
 ·go_simp;refine hK.out _ _ (by (try dsimp only);exact ⟨zaa ((Below.refl _ _).alloc (Nat.le_refl _) _) E.1,zaa ((Below.refl _ _).alloc (Nat.le_refl _) _) E.2.1,zaa ((Below.refl _ _).alloc (Nat.le_refl _) _) E.2.2⟩) fun G=>?_;replace E:=G;clear hK K G;(try simp only[pA,pZ,pS,pN]);refine zaf ?_;intro w1 aN aQ;have b1:w1.cell? ⟨w0.heap.size,0,none⟩=some (.int .u8 e.op):=by simp[World.cell?,aQ]
  have B1:=hidX (B0.out.trans (aN.mono B0.out.size));replace E:(fun w'=>w'.cell? ⟨w.heap.size,1,none⟩=some (.int .u8 e.op)/\w'.cell? ⟨w.heap.size,6,none⟩=some (.int .i64 (pa:Int))/\w'.cell? ⟨w.heap.size,7,none⟩=some (.int .i64 (pb:Int))) w1:=aX.out w1 aN;have bd:=hidX (fun w' (h:Below w1.heap.size w1 w')=>(show (fun w'=>w'.cell? ⟨w.heap.size,1,none⟩=some (.int .u8 e.op)/\w'.cell? ⟨w.heap.size,6,none⟩=some (.int .i64 (pa:Int))/\w'.cell? ⟨w.heap.size,7,none⟩=some (.int .i64 (pb:Int))) w' from ⟨zaa h E.1,zaa h E.2.1,zaa h E.2.2⟩));clear aQ;refine r2 3 9 (fun K hK=>?_) fun K hK=>?_
  ·have aO:=zcW e.op w1 w0.heap.size b1;go_simp;refine hK.out _ _ (by (try dsimp only);exact E) fun G=>?_;replace E:=G;clear hK K G;(try simp only[pA,pZ,pS,pN]);clear aO;refine tk 4 E ?_ (hy:=fun w' _=>by go_simp;rw[if_neg (by (repeat (first | rw[ByteArray.size_append] | rw[zad] | rw[zaC] | rw[List.length_singleton]));omega)]);(try simp only[pA,pZ,pS]);refine tk 5 E ?_ (hy:=fun w' _=>by go_simp;rw[if_neg (by (repeat (first | rw[ByteArray.size_append] | rw[zad] | rw[zaC] | rw[List.length_singleton]));omega)]);(try simp only[pA,pZ,pS]);refine r1 9 fun K hK=>?_;go_simp
   go_at_call 111;refine (HA.out w1 (HE.out.below B1.out)).mono ?_;rintro e' w3 ⟨rfl,ak⟩
   (try go_wp2_with fail);refine hK.out _ _ (by (try dsimp only);exact ⟨zaa ak E.1,zaa ak E.2.1,zaa ak E.2.2⟩) fun G=>?_;replace E:=G;clear hK K G;(try simp only[pA,pZ,pS,pN]);have B3:=hidX (B1.out.trans (ak.mono B1.out.size));have bc:=hidX (fun w' (h:Below w3.heap.size w3 w')=>(show (fun w'=>w'.cell? ⟨w.heap.size,1,none⟩=some (.int .u8 e.op)/\w'.cell? ⟨w.heap.size,6,none⟩=some (.int .i64 (pa:Int))/\w'.cell? ⟨w.heap.size,7,none⟩=some (.int .i64 (pb:Int))) w' from ⟨zaa h E.1,zaa h E.2.1,zaa h E.2.2⟩));have b3:=zaa ak b1;refine tk 10 E ?_ (hy:=fun w' _=>by go_simp;rw[if_neg (by (repeat (first | rw[ByteArray.size_append] | rw[zad] | rw[zaC] | rw[List.length_singleton]));omega)]);(try simp only[pA,pZ,pS]);refine tk 11 E ?_ (hy:=fun w' _=>by go_simp;rw[if_neg (by (repeat (first | rw[ByteArray.size_append] | rw[zad] | rw[zaC] | rw[List.length_singleton]));omega)]);(try simp only[pA,pZ,pS]);refine r1 15 fun K hK=>?_;go_simp
   go_at_call 111;refine (HB.out w3 (HE.out.below B3.out)).mono ?_;rintro e' w4 ⟨rfl,ah⟩
   (try go_wp2_with fail);refine hK.out _ _ (by (try dsimp only);exact ⟨zaa ah E.1,zaa ah E.2.1,zaa ah E.2.2⟩) fun G=>?_;replace E:=G;clear hK K G;(try simp only[pA,pZ,pS,pN]);have B4:=hidX (B3.out.trans (ah.mono B3.out.size));have a8:=hidX (fun w' (h:Below w4.heap.size w4 w')=>(show (fun w'=>w'.cell? ⟨w.heap.size,1,none⟩=some (.int .u8 e.op)/\w'.cell? ⟨w.heap.size,6,none⟩=some (.int .i64 (pa:Int))/\w'.cell? ⟨w.heap.size,7,none⟩=some (.int .i64 (pb:Int))) w' from ⟨zaa h E.1,zaa h E.2.1,zaa h E.2.2⟩));have b4:=zaa ah b3;refine tk 16 E ?_ (hy:=fun w' _=>by go_simp;rw[if_neg (by (repeat (first | rw[ByteArray.size_append] | rw[zad] | rw[zaC] | rw[List.length_singleton]));omega)]);(try simp only[pA,pZ,pS]);refine tk 17 E ?_ (hy:=fun w' _=>by go_simp;rw[if_neg (by (repeat (first | rw[ByteArray.size_append] | rw[zad] | rw[zaC] | rw[List.length_singleton]));omega)]);(try simp only[pA,pZ,pS]);refine tk 18 E ?_;(try simp only[pA,pZ,pS]);refine wpAnyH_done (by kernel_rfl) ?_ _;refine NoPanic.normal ?_;go_wp2;go_ret;refine ⟨?_,I.trans (B4.out.mono I.size)⟩;rw[<- HX.out];exact congrArg (fun x=>Ending.returned (.string x)) (cat8 _ A B)
  go_simp
  go_at_call 111;refine (HA.out w1 (HE.out.below B1.out)).mono ?_;rintro e' w5 ⟨rfl,al⟩
  (try go_wp2_with fail);refine hK.out _ _ (by (try dsimp only);exact ⟨zaa al E.1,zaa al E.2.1,zaa al E.2.2⟩) fun G=>?_;replace E:=G;clear hK K G;(try simp only[pA,pZ,pS,pN]);have B5:=hidX (B1.out.trans (al.mono B1.out.size));have bj:=hidX (fun w' (h:Below w5.heap.size w5 w')=>(show (fun w'=>w'.cell? ⟨w.heap.size,1,none⟩=some (.int .u8 e.op)/\w'.cell? ⟨w.heap.size,6,none⟩=some (.int .i64 (pa:Int))/\w'.cell? ⟨w.heap.size,7,none⟩=some (.int .i64 (pb:Int))) w' from ⟨zaa h E.1,zaa h E.2.1,zaa h E.2.2⟩));have b5:=zaa al b1;refine r2 3 15 (fun K hK=>?_) fun K hK=>?_
  ·have aI:=zcW e.op w5 w0.heap.size b5;go_simp;refine hK.out _ _ (by (try dsimp only);exact E) fun G=>?_;replace E:=G;clear hK K G;(try simp only[pA,pZ,pS,pN]);clear aI;refine tk 4 E ?_ (hy:=fun w' _=>by go_simp;rw[if_neg (by (repeat (first | rw[ByteArray.size_append] | rw[zad] | rw[zaC] | rw[List.length_singleton]));omega)]);(try simp only[pA,pZ,pS]);refine tk 5 E ?_ (hy:=fun w' _=>by go_simp;rw[if_neg (by (repeat (first | rw[ByteArray.size_append] | rw[zad] | rw[zaC] | rw[List.length_singleton]));omega)]);(try simp only[pA,pZ,pS]);refine tk 10 E ?_ (hy:=fun w' _=>by go_simp;rw[if_neg (by (repeat (first | rw[ByteArray.size_append] | rw[zad] | rw[zaC] | rw[List.length_singleton]));omega)]);(try simp only[pA,pZ,pS]);refine tk 11 E ?_ (hy:=fun w' _=>by go_simp;rw[if_neg (by (repeat (first | rw[ByteArray.size_append] | rw[zad] | rw[zaC] | rw[List.length_singleton]));omega)]);(try simp only[pA,pZ,pS]);refine r1 15 fun K hK=>?_;go_simp
   go_at_call 111;refine (HB.out w5 (HE.out.below B5.out)).mono ?_;rintro e' w7 ⟨rfl,aj⟩
   (try go_wp2_with fail);refine hK.out _ _ (by (try dsimp only);exact ⟨zaa aj E.1,zaa aj E.2.1,zaa aj E.2.2⟩) fun G=>?_;replace E:=G;clear hK K G;(try simp only[pA,pZ,pS,pN]);have B7:=hidX (B5.out.trans (aj.mono B5.out.size));have bf:=hidX (fun w' (h:Below w7.heap.size w7 w')=>(show (fun w'=>w'.cell? ⟨w.heap.size,1,none⟩=some (.int .u8 e.op)/\w'.cell? ⟨w.heap.size,6,none⟩=some (.int .i64 (pa:Int))/\w'.cell? ⟨w.heap.size,7,none⟩=some (.int .i64 (pb:Int))) w' from ⟨zaa h E.1,zaa h E.2.1,zaa h E.2.2⟩));have b7:=zaa aj b5;refine tk 16 E ?_ (hy:=fun w' _=>by go_simp;rw[if_neg (by (repeat (first | rw[ByteArray.size_append] | rw[zad] | rw[zaC] | rw[List.length_singleton]));omega)]);(try simp only[pA,pZ,pS]);refine tk 17 E ?_ (hy:=fun w' _=>by go_simp;rw[if_neg (by (repeat (first | rw[ByteArray.size_append] | rw[zad] | rw[zaC] | rw[List.length_singleton]));omega)]);(try simp only[pA,pZ,pS]);refine tk 18 E ?_;(try simp only[pA,pZ,pS]);refine wpAnyH_done (by kernel_rfl) ?_ _;refine NoPanic.normal ?_;go_wp2;go_ret;refine ⟨?_,I.trans (B7.out.mono I.size)⟩;rw[<- HX.out];exact congrArg (fun x=>Ending.returned (.string x)) (cat8 _ A B)
  go_simp
  go_at_call 111;refine (HB.out w5 (HE.out.below B5.out)).mono ?_;rintro e' w8 ⟨rfl,ap⟩
  (try go_wp2_with fail);refine hK.out _ _ (by (try dsimp only);exact ⟨zaa ap E.1,zaa ap E.2.1,zaa ap E.2.2⟩) fun G=>?_;replace E:=G;clear hK K G;(try simp only[pA,pZ,pS,pN]);have B8:=hidX (B5.out.trans (ap.mono B5.out.size));have ba:=hidX (fun w' (h:Below w8.heap.size w8 w')=>(show (fun w'=>w'.cell? ⟨w.heap.size,1,none⟩=some (.int .u8 e.op)/\w'.cell? ⟨w.heap.size,6,none⟩=some (.int .i64 (pa:Int))/\w'.cell? ⟨w.heap.size,7,none⟩=some (.int .i64 (pb:Int))) w' from ⟨zaa h E.1,zaa h E.2.1,zaa h E.2.2⟩));have b8:=zaa ap b5;refine r1 3 fun K hK=>?_;have aH:=zcW e.op w8 w0.heap.size b8;go_simp;refine hK.out _ _ (by (try dsimp only);exact E) fun G=>?_;replace E:=G;clear hK K G;(try simp only[pA,pZ,pS,pN]);clear aH;refine tk 4 E ?_ (hy:=fun w' _=>by go_simp;rw[if_neg (by (repeat (first | rw[ByteArray.size_append] | rw[zad] | rw[zaC] | rw[List.length_singleton]));omega)]);(try simp only[pA,pZ,pS]);refine tk 5 E ?_ (hy:=fun w' _=>by go_simp;rw[if_neg (by (repeat (first | rw[ByteArray.size_append] | rw[zad] | rw[zaC] | rw[List.length_singleton]));omega)]);(try simp only[pA,pZ,pS]);refine tk 10 E ?_ (hy:=fun w' _=>by go_simp;rw[if_neg (by (repeat (first | rw[ByteArray.size_append] | rw[zad] | rw[zaC] | rw[List.length_singleton]));omega)]);(try simp only[pA,pZ,pS]);refine tk 11 E ?_ (hy:=fun w' _=>by go_simp;rw[if_neg (by (repeat (first | rw[ByteArray.size_append] | rw[zad] | rw[zaC] | rw[List.length_singleton]));omega)]);(try simp only[pA,pZ,pS]);refine tk 16 E ?_ (hy:=fun w' _=>by go_simp;rw[if_neg (by (repeat (first | rw[ByteArray.size_append] | rw[zad] | rw[zaC] | rw[List.length_singleton]));omega)]);(try simp only[pA,pZ,pS]);refine tk 17 E ?_ (hy:=fun w' _=>by go_simp;rw[if_neg (by (repeat (first | rw[ByteArray.size_append] | rw[zad] | rw[zaC] | rw[List.length_singleton]));omega)]);(try simp only[pA,pZ,pS]);refine tk 18 E ?_;(try simp only[pA,pZ,pS]);refine wpAnyH_done (by kernel_rfl) ?_ _;refine NoPanic.normal ?_;go_wp2;go_ret;refine ⟨?_,I.trans (B8.out.mono I.size)⟩;rw[<- HX.out];exact congrArg (fun x=>Ending.returned (.string x)) (cat8 _ A B)
 go_simp
 go_at_call 111;refine (HA.out w0 (HE.out.below B0.out)).mono ?_;rintro e' af ⟨rfl,ad⟩
 (try go_wp2_with fail);refine hK.out _ _ (by (try dsimp only);exact ⟨zaa ad E.1,zaa ad E.2.1,zaa ad E.2.2⟩) fun G=>?_;replace E:=G;clear hK K G;(try simp only[pA,pZ,pS,pN]);have ao:=hidX (B0.out.trans (ad.mono B0.out.size));have aL:=hidX (fun w' (h:Below af.heap.size af w')=>(show (fun w'=>w'.cell? ⟨w.heap.size,1,none⟩=some (.int .u8 e.op)/\w'.cell? ⟨w.heap.size,6,none⟩=some (.int .i64 (pa:Int))/\w'.cell? ⟨w.heap.size,7,none⟩=some (.int .i64 (pb:Int))) w' from ⟨zaa h E.1,zaa h E.2.1,zaa h E.2.2⟩));refine r2 2 15 (fun K hK=>?_) fun K hK=>?_
 ·go_simp;refine hK.out _ _ (by (try dsimp only);exact ⟨zaa ((Below.refl _ _).alloc (Nat.le_refl _) _) E.1,zaa ((Below.refl _ _).alloc (Nat.le_refl _) _) E.2.1,zaa ((Below.refl _ _).alloc (Nat.le_refl _) _) E.2.2⟩) fun G=>?_;replace E:=G;clear hK K G;(try simp only[pA,pZ,pS,pN]);refine zaf ?_;intro Z ax az;have aE:Z.cell? ⟨af.heap.size,0,none⟩=some (.int .u8 e.op):=by simp[World.cell?,az]
  have ae:=hidX (ao.out.trans (ax.mono ao.out.size));replace E:(fun w'=>w'.cell? ⟨w.heap.size,1,none⟩=some (.int .u8 e.op)/\w'.cell? ⟨w.heap.size,6,none⟩=some (.int .i64 (pa:Int))/\w'.cell? ⟨w.heap.size,7,none⟩=some (.int .i64 (pb:Int))) Z:=aL.out Z ax;have a1:=hidX (fun w' (h:Below Z.heap.size Z w')=>(show (fun w'=>w'.cell? ⟨w.heap.size,1,none⟩=some (.int .u8 e.op)/\w'.cell? ⟨w.heap.size,6,none⟩=some (.int .i64 (pa:Int))/\w'.cell? ⟨w.heap.size,7,none⟩=some (.int .i64 (pb:Int))) w' from ⟨zaa h E.1,zaa h E.2.1,zaa h E.2.2⟩));clear az;refine r2 3 15 (fun K hK=>?_) fun K hK=>?_
  ·have aF:=zcW e.op Z af.heap.size aE;go_simp;refine hK.out _ _ (by (try dsimp only);exact E) fun G=>?_;replace E:=G;clear hK K G;(try simp only[pA,pZ,pS,pN]);clear aF;refine tk 4 E ?_ (hy:=fun w' _=>by go_simp;rw[if_neg (by (repeat (first | rw[ByteArray.size_append] | rw[zad] | rw[zaC] | rw[List.length_singleton]));omega)]);(try simp only[pA,pZ,pS]);refine tk 5 E ?_ (hy:=fun w' _=>by go_simp;rw[if_neg (by (repeat (first | rw[ByteArray.size_append] | rw[zad] | rw[zaC] | rw[List.length_singleton]));omega)]);(try simp only[pA,pZ,pS]);refine tk 10 E ?_ (hy:=fun w' _=>by go_simp;rw[if_neg (by (repeat (first | rw[ByteArray.size_append] | rw[zad] | rw[zaC] | rw[List.length_singleton]));omega)]);(try simp only[pA,pZ,pS]);refine tk 11 E ?_ (hy:=fun w' _=>by go_simp;rw[if_neg (by (repeat (first | rw[ByteArray.size_append] | rw[zad] | rw[zaC] | rw[List.length_singleton]));omega)]);(try simp only[pA,pZ,pS]);refine r1 15 fun K hK=>?_;go_simp
   go_at_call 111;refine (HB.out Z (HE.out.below ae.out)).mono ?_;rintro e' aM ⟨rfl,X⟩
   (try go_wp2_with fail);refine hK.out _ _ (by (try dsimp only);exact ⟨zaa X E.1,zaa X E.2.1,zaa X E.2.2⟩) fun G=>?_;replace E:=G;clear hK K G;(try simp only[pA,pZ,pS,pN]);have aV:=hidX (ae.out.trans (X.mono ae.out.size));have aZ:=hidX (fun w' (h:Below aM.heap.size aM w')=>(show (fun w'=>w'.cell? ⟨w.heap.size,1,none⟩=some (.int .u8 e.op)/\w'.cell? ⟨w.heap.size,6,none⟩=some (.int .i64 (pa:Int))/\w'.cell? ⟨w.heap.size,7,none⟩=some (.int .i64 (pb:Int))) w' from ⟨zaa h E.1,zaa h E.2.1,zaa h E.2.2⟩));have bh:=zaa X aE;refine tk 16 E ?_ (hy:=fun w' _=>by go_simp;rw[if_neg (by (repeat (first | rw[ByteArray.size_append] | rw[zad] | rw[zaC] | rw[List.length_singleton]));omega)]);(try simp only[pA,pZ,pS]);refine tk 17 E ?_ (hy:=fun w' _=>by go_simp;rw[if_neg (by (repeat (first | rw[ByteArray.size_append] | rw[zad] | rw[zaC] | rw[List.length_singleton]));omega)]);(try simp only[pA,pZ,pS]);refine tk 18 E ?_;(try simp only[pA,pZ,pS]);refine wpAnyH_done (by kernel_rfl) ?_ _;refine NoPanic.normal ?_;go_wp2;go_ret;refine ⟨?_,I.trans (aV.out.mono I.size)⟩;rw[<- HX.out];exact congrArg (fun x=>Ending.returned (.string x)) (cat8 _ A B)
  go_simp
  go_at_call 111;refine (HB.out Z (HE.out.below ae.out)).mono ?_;rintro e' aC ⟨rfl,U⟩
  (try go_wp2_with fail);refine hK.out _ _ (by (try dsimp only);exact ⟨zaa U E.1,zaa U E.2.1,zaa U E.2.2⟩) fun G=>?_;replace E:=G;clear hK K G;(try simp only[pA,pZ,pS,pN]);have aY:=hidX (ae.out.trans (U.mono ae.out.size));have a6:=hidX (fun w' (h:Below aC.heap.size aC w')=>(show (fun w'=>w'.cell? ⟨w.heap.size,1,none⟩=some (.int .u8 e.op)/\w'.cell? ⟨w.heap.size,6,none⟩=some (.int .i64 (pa:Int))/\w'.cell? ⟨w.heap.size,7,none⟩=some (.int .i64 (pb:Int))) w' from ⟨zaa h E.1,zaa h E.2.1,zaa h E.2.2⟩));have aW:=zaa U aE;refine r1 3 fun K hK=>?_;have aB:=zcW e.op aC af.heap.size aW;go_simp;refine hK.out _ _ (by (try dsimp only);exact E) fun G=>?_;replace E:=G;clear hK K G;(try simp only[pA,pZ,pS,pN]);clear aB;refine tk 4 E ?_ (hy:=fun w' _=>by go_simp;rw[if_neg (by (repeat (first | rw[ByteArray.size_append] | rw[zad] | rw[zaC] | rw[List.length_singleton]));omega)]);(try simp only[pA,pZ,pS]);refine tk 5 E ?_ (hy:=fun w' _=>by go_simp;rw[if_neg (by (repeat (first | rw[ByteArray.size_append] | rw[zad] | rw[zaC] | rw[List.length_singleton]));omega)]);(try simp only[pA,pZ,pS]);refine tk 10 E ?_ (hy:=fun w' _=>by go_simp;rw[if_neg (by (repeat (first | rw[ByteArray.size_append] | rw[zad] | rw[zaC] | rw[List.length_singleton]));omega)]);(try simp only[pA,pZ,pS]);refine tk 11 E ?_ (hy:=fun w' _=>by go_simp;rw[if_neg (by (repeat (first | rw[ByteArray.size_append] | rw[zad] | rw[zaC] | rw[List.length_singleton]));omega)]);(try simp only[pA,pZ,pS]);refine tk 16 E ?_ (hy:=fun w' _=>by go_simp;rw[if_neg (by (repeat (first | rw[ByteArray.size_append] | rw[zad] | rw[zaC] | rw[List.length_singleton]));omega)]);(try simp only[pA,pZ,pS]);refine tk 17 E ?_ (hy:=fun w' _=>by go_simp;rw[if_neg (by (repeat (first | rw[ByteArray.size_append] | rw[zad] | rw[zaC] | rw[List.length_singleton]));omega)]);(try simp only[pA,pZ,pS]);refine tk 18 E ?_;(try simp only[pA,pZ,pS]);refine wpAnyH_done (by kernel_rfl) ?_ _;refine NoPanic.normal ?_;go_wp2;go_ret;refine ⟨?_,I.trans (aY.out.mono I.size)⟩;rw[<- HX.out];exact congrArg (fun x=>Ending.returned (.string x)) (cat8 _ A B)
 go_simp
 go_at_call 111;refine (HB.out af (HE.out.below ao.out)).mono ?_;rintro e' ar ⟨rfl,ab⟩
 (try go_wp2_with fail);refine hK.out _ _ (by (try dsimp only);exact ⟨zaa ab E.1,zaa ab E.2.1,zaa ab E.2.2⟩) fun G=>?_;replace E:=G;clear hK K G;(try simp only[pA,pZ,pS,pN]);have aK:=hidX (ao.out.trans (ab.mono ao.out.size));have aR:=hidX (fun w' (h:Below ar.heap.size ar w')=>(show (fun w'=>w'.cell? ⟨w.heap.size,1,none⟩=some (.int .u8 e.op)/\w'.cell? ⟨w.heap.size,6,none⟩=some (.int .i64 (pa:Int))/\w'.cell? ⟨w.heap.size,7,none⟩=some (.int .i64 (pb:Int))) w' from ⟨zaa h E.1,zaa h E.2.1,zaa h E.2.2⟩));refine r1 2 fun K hK=>?_;go_simp;refine hK.out _ _ (by (try dsimp only);exact ⟨zaa ((Below.refl _ _).alloc (Nat.le_refl _) _) E.1,zaa ((Below.refl _ _).alloc (Nat.le_refl _) _) E.2.1,zaa ((Below.refl _ _).alloc (Nat.le_refl _) _) E.2.2⟩) fun G=>?_;replace E:=G;clear hK K G;(try simp only[pA,pZ,pS,pN]);refine zaf ?_;intro ag aA ay;have aT:ag.cell? ⟨ar.heap.size,0,none⟩=some (.int .u8 e.op):=by simp[World.cell?,ay]
 have aU:=hidX (aK.out.trans (aA.mono aK.out.size));replace E:(fun w'=>w'.cell? ⟨w.heap.size,1,none⟩=some (.int .u8 e.op)/\w'.cell? ⟨w.heap.size,6,none⟩=some (.int .i64 (pa:Int))/\w'.cell? ⟨w.heap.size,7,none⟩=some (.int .i64 (pb:Int))) ag:=aR.out ag aA;have a7:=hidX (fun w' (h:Below ag.heap.size ag w')=>(show (fun w'=>w'.cell? ⟨w.heap.size,1,none⟩=some (.int .u8 e.op)/\w'.cell? ⟨w.heap.size,6,none⟩=some (.int .i64 (pa:Int))/\w'.cell? ⟨w.heap.size,7,none⟩=some (.int .i64 (pb:Int))) w' from ⟨zaa h E.1,zaa h E.2.1,zaa h E.2.2⟩));clear ay;refine r1 3 fun K hK=>?_;have aG:=zcW e.op ag ar.heap.size aT;go_simp;refine hK.out _ _ (by (try dsimp only);exact E) fun G=>?_;replace E:=G;clear hK K G;(try simp only[pA,pZ,pS,pN]);clear aG;refine tk 4 E ?_ (hy:=fun w' _=>by go_simp;rw[if_neg (by (repeat (first | rw[ByteArray.size_append] | rw[zad] | rw[zaC] | rw[List.length_singleton]));omega)]);(try simp only[pA,pZ,pS]);refine tk 5 E ?_ (hy:=fun w' _=>by go_simp;rw[if_neg (by (repeat (first | rw[ByteArray.size_append] | rw[zad] | rw[zaC] | rw[List.length_singleton]));omega)]);(try simp only[pA,pZ,pS]);refine tk 10 E ?_ (hy:=fun w' _=>by go_simp;rw[if_neg (by (repeat (first | rw[ByteArray.size_append] | rw[zad] | rw[zaC] | rw[List.length_singleton]));omega)]);(try simp only[pA,pZ,pS]);refine tk 11 E ?_ (hy:=fun w' _=>by go_simp;rw[if_neg (by (repeat (first | rw[ByteArray.size_append] | rw[zad] | rw[zaC] | rw[List.length_singleton]));omega)]);(try simp only[pA,pZ,pS]);refine tk 16 E ?_ (hy:=fun w' _=>by go_simp;rw[if_neg (by (repeat (first | rw[ByteArray.size_append] | rw[zad] | rw[zaC] | rw[List.length_singleton]));omega)]);(try simp only[pA,pZ,pS]);refine tk 17 E ?_ (hy:=fun w' _=>by go_simp;rw[if_neg (by (repeat (first | rw[ByteArray.size_append] | rw[zad] | rw[zaC] | rw[List.length_singleton]));omega)]);(try simp only[pA,pZ,pS]);refine tk 18 E ?_;(try simp only[pA,pZ,pS]);refine wpAnyH_done (by kernel_rfl) ?_ _;refine NoPanic.normal ?_;go_wp2;go_ret;refine ⟨?_,I.trans (aU.out.mono I.size)⟩;rw[<- HX.out];exact congrArg (fun x=>Ending.returned (.string x)) (cat8 _ A B)
theorem zec{es:List Ex}{S:List Sp}(E:ExT es S)(a:Option Addr)(c:Nat)(q:Option Nat):∀ (n i:Nat) (w:World),zbG q w a es->i<n->i<es.length->Calls Tryz.prog 111 #[.slice a es.length c,.int .i64 (i:Int)] w fun e w'=>e=.returned (.string (mkS (txE n es i)))/\Below w.heap.size w w'
 | 0,_,_,_,h,_=>absurd h (Nat.not_lt_zero _)
 | n+1,i,w,hE,hin,hi=>zms E a c q n (zec E a c q n) i w hE hin hi
theorem zkQ{P:World->Prop}{w:World}{G I:Obj}(h:∀ E,Below w.heap.size w E->E.heap[w.heap.size]?=some G->E.heap[w.heap.size+1]?=some I->P E):P ((w.alloc G).alloc I):=by
 have h1:(w.alloc G).heap.size=w.heap.size+1:=by simp
 refine h _ (((Below.refl _ _).alloc (Nat.le_refl _) _).alloc (by omega) _) ?_ ?_
 ·rw[Below.heap_alloc _ _ _ (by omega)];exact heap_alloc_new _ _
 rw[<- h1];exact heap_alloc_new _ _
theorem zdg{es:List Ex}{l:List Int}{k:Nat}{m:Nat}(h:l[k]?=some (m:Int)):zaG es (l.take (k+1))=zaG es (l.take k) ++ 32 :: txE 60 es m:=by
 unfold zaG;rw[zcP _ h];rfl
theorem zbz{α β:Type}(g:α->List β)(l:List α)(j:Nat):((l.take j).flatMap g).length<=(l.flatMap g).length:=by
 have h:l.flatMap g=(l.take j).flatMap g ++ (l.drop j).flatMap g:=by
  rw[<- List.flatMap_append,List.take_append_drop]
 rw[h,List.length_append];omega
theorem zhV(x y:Bs):mkS x ++ (({ data:=#[32] }:ByteArray) ++ mkS y)=mkS (x ++ 32 :: y):=by
 have e:({ data:=#[32] }:ByteArray)=mkS [32]:=rfl;rw[e,zaV,zaV];rfl
theorem zim(x:Bs):({ data:=#[40] }:ByteArray) ++ mkS x ++ { data:=#[41] }=mkS (40 :: (x ++ [41])):=by
 have e:∀ x:UInt8,({ data:=#[x] }:ByteArray)=mkS [x]:=fun _=>rfl;rw[e,e,zaV,zaV];simp
theorem zo4(n0:ByteArray)(s0:Int)(a1:Option Addr)(m1 c1:Nat)(a3:Option Addr)(m3 c3:Nat)(x:Ac)(a_args:Option Addr)(c_args:Nat){es:List Ex}{S:List Sp}(hT:ExT es S)(hx:AcT es x)(a:Option Addr)(c:Nat)(q:Option Nat)(w:World)(hE:zbG q w a es)(hI:zbL q w a_args x.args) :
  Calls Tryz.prog 63 #[.agg #[.string n0,.int .i64 s0,.slice a1 m1 c1,.slice a es.length c,.slice a3 m3 c3],.agg #[.int .i64 x.kind,.int .i64 x.k,.string x.cls,.slice a_args x.args.length c_args]] w fun e w'=>e=.returned (.string (mkS (txA es x)))/\Below w.heap.size w w':=by
 have al:=hx.cases;have aq:=zi6 hx;have aE:=zg4 hT hx.2.1 hx.2.2;obtain ⟨_,aB,ak⟩:=hx;have h60:=hT.1;have ah:Hid (40 :: (zbe x ++ (zaG es x.args ++ [41]))=txA es x):=rfl;obtain ⟨hd,ae⟩:∃ hd,hd=zbe x:=⟨_,rfl⟩
 rw[<- ae]at ah aq;obtain ⟨cb,ad⟩:∃ cb,x.cls=mkS cb:=⟨bsOf x.cls,(zb2 _).symm⟩
 have ab:=hidX ae;have HE:=hidX hE;have HI:=hidX hI;have au:=hidX ak;have ay:=hidX al;have aj:=hidX ad;rw[ad];clear hE hI ak al ae ad;go_enter Tryz.func63,Tryz.ntmps63;go_upto_region 1 with fail
 refine zkQ ?_;intro E af U I;have X:w.heap.size+1<E.heap.size:=zab I;have ar:=hidX U;have d0:E.cell? ⟨w.heap.size+1,0,none⟩=some (.int .i64 x.kind):=by simp[World.cell?,I]
 have d1:E.cell? ⟨w.heap.size+1,1,none⟩=some (.int .i64 x.k):=by simp[World.cell?,I]
 have d2:E.cell? ⟨w.heap.size+1,2,none⟩=some (.string (mkS cb)):=by simp[World.cell?,I]
 have d3:E.cell? ⟨w.heap.size+1,3,none⟩=some (.slice a_args x.args.length c_args):=by simp[World.cell?,I]
 have D3:=hidX d3;clear U I d3;rcases ay.out with ⟨k,hs⟩ | ⟨k,hk,hz⟩ | ⟨k,hk⟩ | ⟨k,hz⟩
 focus
  have aD:cb.length<=20:=by rw[aj.out,zad]at hs;exact hs
  have HH:Hid (mkS hd=({ data:=#[97,100,100,32] }:ByteArray) ++ mkS cb):=show _=_ from by rw[ab.out];unfold zbe;rw[if_pos k,aj.out,zbX];exact (zaV [97,100,100,32] cb).symm
  have y1:¬ 9223372036854775807<4+(mkS cb).size:=by rw[zad];omega
  have y2:¬ 9223372036854775807<({ data:=#[97,100,100,32] }:ByteArray).size+(mkS cb).size:=y1;rw[k]at d0;clear hs k;go_upto_region 10 with fail
  rw[<- HH.out];have G:=hidX (show Below E.heap.size E E from Below.refl _ _);have e3:E.cell? ⟨w.heap.size+1,3,none⟩=some (.slice a_args x.args.length c_args):=(G.out.cell (p:=⟨w.heap.size+1,3,none⟩) X).trans D3.out
 rotate_left
 focus
  have HH:Hid (mkS hd=({ data:=#[100,114,111,112,32] }:ByteArray) ++ mkS (Lib.itoa x.k)):=show _=_ from by rw[ab.out];unfold zbe;rw[if_neg (by omega),if_pos k];exact (zaV [100,114,111,112,32] _).symm
  have ap:=Lib.itoa_length_le _ hk.1 hk.2;have y1:¬ 9223372036854775807<5+(mkS (Lib.itoa x.k)).size:=by rw[zad];omega
  have y2:¬ 9223372036854775807<({ data:=#[100,114,111,112,32] }:ByteArray).size+(mkS (Lib.itoa x.k)).size:=y1;rw[k]at d0;clear k hz;go_upto_region 10 with (go_at_call 61;refine (zdB x.k _ hk).mono ?_;rintro e w1 ⟨rfl,O⟩);rw[<- HH.out];have G:=hidX (show Below E.heap.size E w1 from O);have e3:w1.cell? ⟨w.heap.size+1,3,none⟩=some (.slice a_args x.args.length c_args):=(G.out.cell (p:=⟨w.heap.size+1,3,none⟩) X).trans D3.out
 rotate_left
 focus
  have HH:Hid (mkS hd=({ data:=#[109,111,100,32] }:ByteArray) ++ mkS (Lib.itoa x.k)):=show _=_ from by rw[ab.out];unfold zbe;rw[if_neg (by omega),if_neg (by omega),if_pos k];exact (zaV [109,111,100,32] _).symm
  have ap:=Lib.itoa_length_le _ hk.1 hk.2;have y1:¬ 9223372036854775807<4+(mkS (Lib.itoa x.k)).size:=by rw[zad];omega
  have y2:¬ 9223372036854775807<({ data:=#[109,111,100,32] }:ByteArray).size+(mkS (Lib.itoa x.k)).size:=y1;rw[k]at d0;clear k;go_upto_region 10 with (go_at_call 61;refine (zdB x.k _ hk).mono ?_;rintro e w1 ⟨rfl,O⟩);rw[<- HH.out];have G:=hidX (show Below E.heap.size E w1 from O);have e3:w1.cell? ⟨w.heap.size+1,3,none⟩=some (.slice a_args x.args.length c_args):=(G.out.cell (p:=⟨w.heap.size+1,3,none⟩) X).trans D3.out
 rotate_left
 focus
  have HH:Hid (mkS hd=({ data:=#[104,97,108,116] }:ByteArray)):=show _=_ from by rw[ab.out];unfold zbe;rw[if_neg (by omega),if_neg (by omega),if_neg (by omega)];rfl
  rw[k]at d0;clear k hz;go_upto_region 10 with fail
  rw[<- HH.out];have G:=hidX (show Below E.heap.size E E from Below.refl _ _);have e3:E.cell? ⟨w.heap.size+1,3,none⟩=some (.slice a_args x.args.length c_args):=(G.out.cell (p:=⟨w.heap.size+1,3,none⟩) X).trans D3.out
 rotate_left
 all_goals
  clear d0 d1 d2;go_wp2
  go_loopw [5,30] (fun sv iv wr=>∃ k:Nat,k<=x.args.length/\iv=.int .i64 (k:Int)/\sv=.string (mkS (hd ++ zaG es (x.args.take k)))/\Below E.heap.size E wr) (fun _ iv _=>x.args.length - (intOf iv).toNat)
  case atStart=>exact ⟨0,Nat.zero_le _,rfl,by simp[zaG],G.out⟩
  case round=>
   obtain ⟨k,hk,rfl,rfl,hb⟩:=hrel;have HB:=hidX hb;have U:=(hb.block _ (show w.heap.size<E.heap.size by omega)).trans ar.out;have e1:wr.cell? ⟨w.heap.size,3,none⟩=some (.slice a es.length c):=by simp[World.cell?,U]
   have HW:=hidX (af.trans (hb.mono af.size));have hsz:=hb.size;have ag:(zaG es (x.args.take k)).length<=(zaG es x.args).length:=zbz _ _ _;clear hb U G e3;by_cases aw:k<x.args.length
   ·obtain ⟨v,hv⟩:∃ v,x.args[k]?=some v:=⟨x.args[k],by simp[aw]⟩
    obtain ⟨az,aA⟩:=au.out v (List.mem_of_getElem? hv);obtain ⟨m,rfl⟩:∃ m:Nat,v=(m:Int):=⟨v.toNat,by omega⟩
    obtain ⟨b,o,rfl,_,hc⟩:=(HI.out.below HW.out).get hv;have i0:(0:Int)<=(k:Int):=by omega
    have i1:(k:Int)<(x.args.length:Int):=by omega
    have hm:m<es.length:=by omega
    have ax:=hidX (zdg (es:=es) hv);have aC:=zcH hT 60 m hm;obtain ⟨Z,hZ⟩:∃ Z,Z=hd ++ zaG es (x.args.take k):=⟨_,rfl⟩
    have ao:Z.length<=400000000:=by rw[hZ,List.length_append];omega
    have HZ:=hidX hZ;rw[<- hZ];have y1:¬ 9223372036854775807<1+(mkS (txE 60 es m)).size:=by rw[zad];omega
    have y2:¬ 9223372036854775807<(mkS Z).size+(({ data:=#[32] }:ByteArray) ++ mkS (txE 60 es m)).size:=by rw[ByteArray.size_append,zad,zad,zaC];omega
    have y3:¬ 9223372036854775807<(mkS Z).size+(({ data:=#[32] }:ByteArray).size+(mkS (txE 60 es m)).size):=by rw[zad,zad,zaC];omega
    have y4:¬ 9223372036854775807<(mkS Z).size+(1+(mkS (txE 60 es m)).size):=by rw[zad,zad];omega
    clear hv az aA hZ ag;go_wp2_with (go_at_call 111;refine (zec hT a c q 60 m _ (HE.out.below HW.out) (by omega) hm).mono ?_;rintro e w1 ⟨rfl,O⟩);go_roundw
    case rel=>exact ⟨k+1,by omega,by go_num,by rw[zhV,ax.out,HZ.out,List.append_assoc],HB.out.trans (O.mono hsz)⟩
    case measure=>(simp[intOf];omega)
   obtain rfl:k=x.args.length:=by omega
   have i1:¬ (x.args.length:Int)<(x.args.length:Int):=by omega
   rw[List.take_length];obtain ⟨Z,hZ⟩:∃ Z,Z=hd ++ zaG es x.args:=⟨_,rfl⟩
   have ao:Z.length<=400000000:=by rw[hZ,List.length_append];omega
   have HZ:=hidX hZ;rw[<- hZ];have y1:¬ 9223372036854775807<1+(mkS Z).size:=by rw[zad];omega
   have y2:¬ 9223372036854775807<(({ data:=#[40] }:ByteArray) ++ mkS Z).size+1:=by rw[ByteArray.size_append,zad,zaC];omega
   have y3:¬ 9223372036854775807<({ data:=#[40] }:ByteArray).size+(mkS Z).size+1:=by rw[zad,zaC];omega
   have y4:¬ 9223372036854775807<1+(mkS Z).size+1:=by rw[zad];omega
   clear hZ ag;go_wp2;go_ret;refine ⟨?_,HW.out⟩;rw[<- ah.out,<- List.append_assoc,<- HZ.out];exact congrArg (fun x=>Ending.returned (.string x)) (zim Z)
def SPo(w:World)(l:Bs)(e:Ending)(w':World):Prop:=(∃ v,e=.returned v/\BOwn w' w.heap.size v l)/\Below w.heap.size w w'
theorem catR(x:Bs)(l:Bs):mkS x ++ (⟨l.toArray⟩:ByteArray)=mkS (x ++ l):=zaV x l
theorem catH(X E sl:Bs):mkS X ++ (({ data:=#[40,114,117,108,101,32] }:ByteArray) ++ mkS E ++ { data:=#[32] } ++ mkS sl)=mkS (X ++ (zhk ++ (E ++ 32 :: sl))):=by
 have e1:({ data:=#[40,114,117,108,101,32] }:ByteArray)=mkS zhk:=rfl;have e2:({ data:=#[32] }:ByteArray)=mkS [32]:=rfl;rw[e1,e2,zaV,zaV,zaV,zaV];simp
theorem catL(x y:Bs):mkS x ++ (({ data:=#[10,32,32] }:ByteArray) ++ mkS y)=mkS (x ++ (zbJ ++ y)):=by
 have e:({ data:=#[10,32,32] }:ByteArray)=mkS zbJ:=rfl;rw[e,zaV,zaV]
theorem ngB(b:Bool):(if b then notX ++ [32] else [])=if b then [110,111,116,32] else []:=by cases b <;> rfl
theorem zlK(rs:List Ru)(a:Option Addr)(c:Nat)(q:Option Nat)(w:World)(hv:zdD q w a rs)(bB:rs.length<=16)(hT:∀ r∈rs,RuT r)
  (HC:Hid (Calls Tryz.prog 60 #[.slice a rs.length c] w fun e w'=>e=.returned (.bool true)/\Below w.heap.size w w')) :
  Calls Tryz.prog 27 #[.slice a rs.length c] w (SPo w (txRs rs)):=by
 have HV:=hidX hv;have HT:=hidX hT;have bo:=znF bB hT;clear hv hT;go_enter Tryz.func27,Tryz.ntmps27;go_wp2_with (go_at_call 60;with_reducible refine HC.out.mono ?_;rintro e w1 ⟨rfl,aZ⟩)
 go_loopw [3,17] (fun sv U wr=>∃ k:Nat,k<=rs.length/\U=.int .i64 (k:Int)/\sv=.string (mkS (txRs (rs.take k)))/\Below w.heap.size w wr) (fun _ U _=>rs.length - (intOf U).toNat)
 case atStart=>exact ⟨0,Nat.zero_le _,rfl,rfl,aZ⟩
 case round=>
  obtain ⟨k,hk,rfl,rfl,hb⟩:=hrel;have HB:=hidX hb;have hsz:=hb.size;have hX:(txRs (rs.take k)).length<=(txRs rs).length:=zbz _ _ _;clear hb aZ;by_cases bU:k<rs.length
  ·obtain ⟨x,hx⟩:∃ x,rs[k]?=some x:=⟨rs[k],by simp[bU]⟩
   have aY:=HT.out x (List.mem_of_getElem? hx);have br:=zmJ aY;obtain ⟨b,o,a1,c1,a2,c2,a3,c3,rfl,_,t0,t1,t2,t3,t4,ad,bj,bp,_⟩:=(HV.out.below HB.out).get hx;obtain ⟨aS,ah,bO,aI,bZ,⟨SS,aQ⟩,aN⟩:=aY;have b7:=zmB bO aI;have b8:=zmM aQ bZ aN;have b9:=Lib.itoa_length_le _ ah.1 ah.2;have bk:=hidX ad;have aU:=hidX bj;have ba:=hidX bp;have bR:=hidX aI;have bC:=hidX aN;have i0:(0:Int)<=(k:Int):=by omega
   have i1:(k:Int)<(rs.length:Int):=by omega
   have aj:Hid (txRs (rs.take (k+1))=txRs (rs.take k) ++ txR x):=zcP txR hx;obtain ⟨X,aG⟩:∃ X,X=txRs (rs.take k):=⟨_,rfl⟩
   obtain ⟨nb,ay⟩:∃ nb,x.name=mkS nb:=⟨bsOf x.name,(zb2 _).symm⟩
   obtain ⟨hd,aC⟩:∃ hd,hd=txHd x:=⟨_,rfl⟩
   have bN:Hid (zhk ++ (nb ++ 32 :: Lib.itoa x.sal)=hd):=show _=_ from by rw[aC];unfold txHd;rw[ay,zbX]
   have bP:Hid (X ++ (hd ++ (txPs x.pats ++ (zbJ ++ (zcz ++ (txAs x.exprs x.acts ++ [41,10])))))=txRs (rs.take (k+1))):=show _=_ from by rw[aj.out,<- aG,aC];rfl
   rw[<- aG]at hX ⊢;rw[<- aC]at br;rw[ay]at t0;have cf:nb.length<=20:=by rw[ay,zad]at aS;exact aS
   have ce:X.length<=42000000000:=by omega
   obtain ⟨wo,aW⟩:∃ u,u=wr:=⟨wr,rfl⟩
   rw[<- aW]at HB hsz bk aU ba t0 t1 t2 t3 t4 ⊢;clear ad bj bp aI aN hx aG aC aj aS ay aW hX bo;go_upto_region 7 with fail
   refine zaf ?_;intro wb ap af;have bH:wo.heap.size<wb.heap.size:=zab af;have bQ:=hidX af;have e0:wb.cell? ⟨wo.heap.size,0,none⟩=some (.string (mkS nb)):=by simp[World.cell?,af]
   have e1:wb.cell? ⟨wo.heap.size,1,none⟩=some (.int .i64 x.sal):=by simp[World.cell?,af]
   have aH:=hidX (fun w' (h:Below wb.heap.size wb w')=>(h.block _ bH).trans bQ.out);clear af t0 t1 t2 t3 t4;refine wp_region_noPanic ?_;refine wp_region_held_drew (S:=(fun w'=>w'.cell? ⟨wo.heap.size,0,none⟩=some (.string (mkS nb))/\w'.cell? ⟨wo.heap.size,1,none⟩=some (.int .i64 x.sal))) (by kernel_rfl) ?_ (fun E=>?_)
   ·(try dsimp only);exact ⟨e0,e1⟩
   refine tk 0 E ?_;(try simp only[pA,pZ,pS]);refine tk 1 E ?_;(try simp only[pA,pZ,pS]);refine tk 2 E ?_;(try simp only[pA,pZ,pS]);refine tk 3 E ?_ (hy:=fun w' _=>by go_simp;rw[if_neg (by (repeat (first | rw[ByteArray.size_append] | rw[zad] | rw[zaC]));omega)]);(try simp only[pA,pZ,pS]);refine tk 4 E ?_ (hy:=fun w' _=>by go_simp;rw[if_neg (by (repeat (first | rw[ByteArray.size_append] | rw[zad] | rw[zaC]));omega)]);(try simp only[pA,pZ,pS]);refine tk 5 E ?_;(try simp only[pA,pZ,pS]);refine tk 6 E ?_;(try simp only[pA,pZ,pS]);refine wpAnyH_ready (rs:=[7]) (by kernel_rfl) (by simp) ?_;refine AllReadyH.cons (List.getElem?_toArray.trans rfl) (fun K hK=>?_) AllReadyH.nil;go_simp
   go_at_call 61;refine (zdB x.sal _ ah).mono ?_;rintro e' w2 ⟨rfl,aD⟩
   (try go_wp2_with fail);refine hK.out _ _ (by (try dsimp only);exact ⟨zaa aD E.1,zaa aD E.2⟩) fun hQ=>?_;replace E:=hQ;clear hK K hQ;(try simp only[pA,pZ,pS,pN]);refine tk 8 E ?_ (hy:=fun w' _=>by go_simp;rw[if_neg (by (repeat (first | rw[ByteArray.size_append] | rw[zad] | rw[zaC]));omega)]);(try simp only[pA,pZ,pS]);refine tk 9 E ?_ (hy:=fun w' _=>by go_simp;rw[if_neg (by (repeat (first | rw[ByteArray.size_append] | rw[zad] | rw[zaC]));omega)]);(try simp only[pA,pZ,pS]);rw[catH,bN.out];refine tk 10 E ?_;(try simp only[pA,pZ,pS]);refine wpAnyH_done (by kernel_rfl) ?_ _;refine NoPanic.normal ?_;have aP:=hidX (show Below wb.heap.size wb w2 from (Below.refl wb.heap.size wb).drew.trans (aD.mono (by simp)));have hq:=aH.out w2 aP.out;have e2:w2.cell? ⟨wo.heap.size,2,none⟩=some (.slice a1 x.pats.length c1):=by simp[World.cell?,hq]
   clear hq aD E e0 e1;go_wp2
   go_loopw [3,34] (fun sv U wr=>∃ j:Nat,j<=x.pats.length/\U=.int .i64 (j:Int)/\sv=.string (mkS (X ++ (hd ++ txPs (x.pats.take j))))/\Below wb.heap.size wb wr) (fun _ U _=>x.pats.length - (intOf U).toNat)
   case atStart=>exact ⟨0,Nat.zero_le _,rfl,by simp[txPs],aP.out⟩
   case round=>
    obtain ⟨j,hj,rfl,rfl,aB⟩:=hrel;have ae:=hidX aB;have ak:=aB.size;have bV:(txPs (x.pats.take j)).length<=(txPs x.pats).length:=zbz _ _ _;have al:=hidX (ap.trans (aB.mono ap.size));clear aB e2 aP;by_cases bw:j<x.pats.length
    ·obtain ⟨p,hp⟩:∃ p,x.pats[j]?=some p:=⟨x.pats[j],by simp[bw]⟩
     have ad:=bR.out p (List.mem_of_getElem? hp);obtain ⟨aO,bY,aF⟩:=ad.get;have b0:=zoy ad;have b3:=znv bY aF;obtain ⟨b,o,aV,bi,rfl,_,u0,u1,u2,ao⟩:=(bk.out.below al.out).get hp;have ax:=hidX ao;have bz:=hidX aF;have i0:(0:Int)<=(j:Int):=by omega
     have i1:(j:Int)<(x.pats.length:Int):=by omega
     obtain ⟨cb,aw⟩:∃ cb,p.cls=mkS cb:=⟨bsOf p.cls,(zb2 _).symm⟩
     obtain ⟨Y,hY⟩:∃ Y,Y=X ++ (hd ++ txPs (x.pats.take j)):=⟨_,rfl⟩
     have bT:Y.length<=43000000000:=by rw[hY,List.length_append,List.length_append];omega
     obtain ⟨ng,hng⟩:∃ ng:Bs,ng=if p.neg then [110,111,116,32] else []:=⟨_,rfl⟩
     have b4:ng.length<=4:=by rw[hng];cases p.neg <;> simp
     have bX:Hid (Y ++ [10,32,32,40] ++ ng ++ cb ++ txTs p.terms ++ [41]=X ++ (hd ++ txPs (x.pats.take (j+1)))):=show _=_ from by
      have h1:txPs (x.pats.take (j+1))=txPs (x.pats.take j) ++ (zbJ ++ txP p):=zcP _ hp;rw[h1,hY,hng];unfold txP;rw[ngB,aw,zbX];simp[zbJ]
     have b6:cb.length<=20:=by rw[aw,zad]at aO;exact aO
     rw[aw]at u1;rw[<- hY];have az:=hidX hng;clear ao aF ad hp hY aO aw hng;obtain ⟨I,O⟩:∃ u,u=wr:=⟨wr,rfl⟩
     rw[<- O]at ae ak al ax u0 u1 u2 ⊢;clear O;have z1:¬ 9223372036854775807<(mkS Y).size+4:=by rw[zad];omega
     have z2:¬ 9223372036854775807<(mkS Y).size+({ data:=#[10,32,32,40] }:ByteArray).size:=z1;rcases (show p.neg=false∨p.neg=true by cases p.neg <;> simp) with hn | hn
     focus
      rw[hn]at u0 az;clear hn;go_upto_region 14 with fail
      refine zaf ?_;intro wp aq G;have bb:I.heap.size<wp.heap.size:=zab G;have p1:wp.cell? ⟨I.heap.size,1,none⟩=some (.string (mkS cb)):=by simp[World.cell?,G]
      have p2:wp.cell? ⟨I.heap.size,2,none⟩=some (.slice aV p.terms.length bi):=by simp[World.cell?,G]
      clear G u0 u1 u2;rw[catR Y [10,32,32,40]];obtain ⟨Y2,ab⟩:∃ Y2,Y2=Y ++ [10,32,32,40]:=⟨_,rfl⟩
      have bn:Y2.length<=43000000008:=by rw[ab,List.length_append];simp;omega
      have bs:Hid (Y2=Y ++ [10,32,32,40] ++ ng):=show _=_ from by rw[ab,az.out];simp
     rotate_left
     focus
      rw[hn]at u0 az;clear hn;go_upto_region 13 with fail
      refine zaf ?_;intro wp aq G;have bb:I.heap.size<wp.heap.size:=zab G;have p1:wp.cell? ⟨I.heap.size,1,none⟩=some (.string (mkS cb)):=by simp[World.cell?,G]
      have p2:wp.cell? ⟨I.heap.size,2,none⟩=some (.slice aV p.terms.length bi):=by simp[World.cell?,G]
      clear G u0 u1 u2;rw[catR Y [10,32,32,40]];obtain ⟨Y1,au⟩:∃ Y1,Y1=Y ++ [10,32,32,40]:=⟨_,rfl⟩
      have b5:Y1.length<=43000000004:=by rw[au,List.length_append];simp;omega
      have bI:=hidX au;rw[<- au];clear au z1 z2;have z1:¬ 9223372036854775807<(mkS Y1).size+4:=by rw[zad];omega
      have z2:¬ 9223372036854775807<(mkS Y1).size+({ data:=#[110,111,116,32] }:ByteArray).size:=z1;go_upto_region 14 with fail
      rw[catR Y1 [110,111,116,32]];obtain ⟨Y2,ab⟩:∃ Y2,Y2=Y1 ++ [110,111,116,32]:=⟨_,rfl⟩
      have bn:Y2.length<=43000000008:=by rw[ab,List.length_append];simp;omega
      have bs:Hid (Y2=Y ++ [10,32,32,40] ++ ng):=show _=_ from by rw[ab,bI.out,az.out];rfl
     rotate_left
     all_goals
      rw[<- ab];clear ab z1 z2;have z3:¬ 9223372036854775807<(mkS Y2).size+(mkS cb).size:=by rw[zad,zad];omega
      go_upto_region 15 with fail
      rw[zaV Y2 cb];obtain ⟨Y3,ar⟩:∃ Y3,Y3=Y2 ++ cb:=⟨_,rfl⟩
      have b1:Y3.length<=43000000028:=by rw[ar,List.length_append];omega
      have bS:=hidX ar;rw[<- ar];clear ar z3;have bm:=hidX (ae.out.trans (aq.mono ak));have b2:=hidX (al.out.trans (aq.mono al.out.size));have bh:=bm.out.size;go_wp2
      go_loopw [3,51] (fun sv U wr=>∃ i:Nat,i<=p.terms.length/\U=.int .i64 (i:Int)/\sv=.string (mkS (Y3 ++ txTs (p.terms.take i)))/\Below wp.heap.size wp wr) (fun _ U _=>p.terms.length - (intOf U).toNat)
      case atStart=>exact ⟨0,Nat.zero_le _,rfl,by simp[txTs],Below.refl _ _⟩
      case round=>
       obtain ⟨i,hi,rfl,rfl,aE⟩:=hrel;have aR:=hidX aE;have bc:=aE.size;have bt:(txTs (p.terms.take i)).length<=(txTs p.terms).length:=zbz _ _ _;clear aE p1 p2;by_cases bF:i<p.terms.length
       ·obtain ⟨t,ht⟩:∃ t,p.terms[i]?=some t:=⟨p.terms[i],by simp[bF]⟩
        obtain ⟨a7,a8⟩:=bz.out t (List.mem_of_getElem? ht);have ca:=znL a7 a8;obtain ⟨b,o,rfl,_,v0,v1,v2,v3,v4,v5⟩:=((ax.out.below aq).below aR.out).get ht;have j0:(0:Int)<=(i:Int):=by omega
        have j1:(i:Int)<(p.terms.length:Int):=by omega
        have bu:Hid (Y3 ++ txTs (p.terms.take (i+1))=(Y3 ++ txTs (p.terms.take i)) ++ 32 :: txT t):=show _=_ from by rw[show txTs (p.terms.take (i+1))=txTs (p.terms.take i) ++ (32 :: txT t) from zcP _ ht,List.append_assoc]
        have HA:=zHA wr;obtain ⟨V,hV⟩:∃ V,V=Y3 ++ txTs (p.terms.take i):=⟨_,rfl⟩
        have aT:V.length<=43000001000:=by rw[hV,List.length_append];omega
        rw[<- hV]at bu;rw[<- hV];have z1:¬ 9223372036854775807<1+(mkS (txT t)).size:=by rw[zad];omega
        have z2:¬ 9223372036854775807<(mkS V).size+(({ data:=#[32] }:ByteArray) ++ mkS (txT t)).size:=by rw[ByteArray.size_append,zad,zad,zaC];omega
        have z3:¬ 9223372036854775807<(mkS V).size+(1+(mkS (txT t)).size):=by rw[zad,zad];omega
        clear ht hV bt;go_wp2_with (go_at_call 62;refine (zh4 t _ a7 a8).mono ?_;rintro e w5 ⟨rfl,aM⟩);go_roundw
        case rel=>exact ⟨i+1,by omega,by go_num,by rw[zhV,bu.out],aR.out.trans (((HA.out _).trans (aM.mono (HA.out _).size)).mono bc)⟩
        case measure=>(simp[intOf];omega)
       obtain rfl:i=p.terms.length:=by omega
       have j1:¬ (p.terms.length:Int)<(p.terms.length:Int):=by omega
       rw[List.take_length];obtain ⟨V,hV⟩:∃ V,V=Y3 ++ txTs p.terms:=⟨_,rfl⟩
       have aT:V.length<=43000001000:=by rw[hV,List.length_append];omega
       have aJ:=hidX hV;rw[<- hV];have z1:¬ 9223372036854775807<(mkS V).size+1:=by rw[zad];omega
       have z2:¬ 9223372036854775807<(mkS V).size+({ data:=#[41] }:ByteArray).size:=z1;clear hV bt;go_wp2;go_roundw
       case rel=>exact ⟨j+1,by omega,by go_num,by rw[catR V [41],aJ.out,bS.out,bs.out,bX.out],bm.out.trans (aR.out.mono bh)⟩
       case measure=>(simp[intOf];omega)
    obtain rfl:j=x.pats.length:=by omega
    have i1:¬ (x.pats.length:Int)<(x.pats.length:Int):=by omega
    rw[List.take_length];obtain ⟨Y,hY⟩:∃ Y,Y=X ++ (hd ++ txPs x.pats):=⟨_,rfl⟩
    have bT:Y.length<=43000000000:=by rw[hY,List.length_append,List.length_append];omega
    have HY:=hidX hY;rw[<- hY];clear hY bV;obtain ⟨I,O⟩:∃ u,u=wr:=⟨wr,rfl⟩
    rw[<- O]at ae ak al ⊢;clear O;have z1:¬ 9223372036854775807<(mkS Y).size+5:=by rw[zad];omega
    have z2:¬ 9223372036854775807<(mkS Y).size+({ data:=#[10,32,32,61,62] }:ByteArray).size:=z1;go_upto_region 23 with fail
    rw[catR Y [10,32,32,61,62]];obtain ⟨Z,hZ⟩:∃ Z,Z=Y ++ [10,32,32,61,62]:=⟨_,rfl⟩
    have cc:Z.length<=43100000000:=by rw[hZ,List.length_append];simp;omega
    have HZ:=hidX hZ;rw[<- hZ];clear hZ;have hq:=aH.out I ae.out;have e4:I.cell? ⟨wo.heap.size,4,none⟩=some (.slice a3 x.acts.length c3):=by simp[World.cell?,hq]
    clear hq z1 z2;go_wp2
    go_loopw [3,69] (fun sv U wr=>∃ m:Nat,m<=x.acts.length/\U=.int .i64 (m:Int)/\sv=.string (mkS (Z ++ txAs x.exprs (x.acts.take m)))/\Below wb.heap.size wb wr) (fun _ U _=>x.acts.length - (intOf U).toNat)
    case atStart=>exact ⟨0,Nat.zero_le _,rfl,by simp[txAs],ae.out⟩
    case round=>
     obtain ⟨m,hm,rfl,rfl,ag⟩:=hrel;have bD:=hidX ag;have aX:=ag.size;have aK:=hidX (ap.trans (ag.mono ap.size));have bl:(txAs x.exprs (x.acts.take m)).length<=(txAs x.exprs x.acts).length:=zbz _ _ _;have hq:=aH.out wr ag;have f0:wr.cell? ⟨wo.heap.size,0,none⟩=some (.string (mkS nb)):=by simp[World.cell?,hq]
     have f1:wr.cell? ⟨wo.heap.size,1,none⟩=some (.int .i64 x.sal):=by simp[World.cell?,hq]
     have f2:wr.cell? ⟨wo.heap.size,2,none⟩=some (.slice a1 x.pats.length c1):=by simp[World.cell?,hq]
     have f3:wr.cell? ⟨wo.heap.size,3,none⟩=some (.slice a2 x.exprs.length c2):=by simp[World.cell?,hq]
     have f4:wr.cell? ⟨wo.heap.size,4,none⟩=some (.slice a3 x.acts.length c3):=by simp[World.cell?,hq]
     clear hq ag e4 ae;by_cases bJ:m<x.acts.length
     ·obtain ⟨y,hy⟩:∃ p,x.acts[m]?=some p:=⟨x.acts[m],by simp[bJ]⟩
      have bf:=bC.out y (List.mem_of_getElem? hy);have bL:=zp3 aQ bf;obtain ⟨b,o,aL,bd,rfl,_,v0,v1,v2,v3,ao⟩:=(ba.out.below aK.out).get hy;have ax:=hidX ao;have i0:(0:Int)<=(m:Int):=by omega
      have i1:(m:Int)<(x.acts.length:Int):=by omega
      have aj:Hid (Z ++ txAs x.exprs (x.acts.take (m+1))=(Z ++ txAs x.exprs (x.acts.take m)) ++ (zbJ ++ txA x.exprs y)):=show _=_ from by rw[show txAs x.exprs (x.acts.take (m+1))=txAs x.exprs (x.acts.take m) ++ (zbJ ++ txA x.exprs y) from zcP _ hy,List.append_assoc]
      have HA:=zHA wr;have bK:=hidX (fun o=>(aU.out.below aK.out).below (HA.out o));obtain ⟨V,hV⟩:∃ V,V=Z ++ txAs x.exprs (x.acts.take m):=⟨_,rfl⟩
      obtain ⟨T,aA⟩:∃ T,T=txA x.exprs y:=⟨_,rfl⟩
      have aT:V.length<=46000000000:=by rw[hV,List.length_append];omega
      rw[<- hV,<- aA]at aj;rw[<- aA]at bL;rw[<- hV];have LA:Hid (∀ w',zbG q w' a2 x.exprs->zbL q w' aL y.args->Calls Tryz.prog 63 #[.agg #[.string (mkS nb),.int .i64 x.sal,.slice a1 x.pats.length c1,.slice a2 x.exprs.length c2,.slice (some ⟨b,o,none⟩) x.acts.length c3],.agg #[.int .i64 y.kind,.int .i64 y.k,.string y.cls,.slice aL y.args.length bd]] w' fun e bG=>e=.returned (.string (mkS T))/\Below w'.heap.size w' bG):=fun w' h1 h2=>by rw[aA];exact zo4 (mkS nb) x.sal a1 _ c1 (some ⟨b,o,none⟩) _ c3 y aL bd aQ bf a2 c2 q w' h1 h2
      have z1:¬ 9223372036854775807<3+(mkS T).size:=by rw[zad];omega
      have z2:¬ 9223372036854775807<(mkS V).size+(({ data:=#[10,32,32] }:ByteArray) ++ mkS T).size:=by rw[ByteArray.size_append,zad,zad];have:({ data:=#[10,32,32] }:ByteArray).size=3:=rfl;omega
      have z3:¬ 9223372036854775807<(mkS V).size+(3+(mkS T).size):=by rw[zad,zad];omega
      have cd:wo.heap.size<wr.heap.size:=by omega
      clear hy ao hV aA bl;go_wp2_with (go_at_call 63;refine (LA.out _ (bK.out _) (ax.out.below (HA.out _))).mono ?_;rintro e w5 ⟨rfl,aM⟩);go_roundw
      case rel=>exact ⟨m+1,by omega,by go_num,by rw[catL,aj.out],bD.out.trans (((HA.out _).trans (aM.mono (HA.out _).size)).mono aX)⟩
      case measure=>(simp[intOf];omega)
     obtain rfl:m=x.acts.length:=by omega
     have i1:¬ (x.acts.length:Int)<(x.acts.length:Int):=by omega
     rw[List.take_length];obtain ⟨V,hV⟩:∃ V,V=Z ++ txAs x.exprs x.acts:=⟨_,rfl⟩
     have aT:V.length<=46000000000:=by rw[hV,List.length_append];omega
     have aJ:=hidX hV;rw[<- hV];have z1:¬ 9223372036854775807<(mkS V).size+2:=by rw[zad];omega
     have z2:¬ 9223372036854775807<(mkS V).size+({ data:=#[41,10] }:ByteArray).size:=z1;have HF:=hidX (show Below w.heap.size w wr from HB.out.trans (aK.out.mono hsz));clear hV bl;go_wp2;go_roundw
     case rel=>exact ⟨k+1,by omega,by go_num,by rw[catR V [41,10],aJ.out,HZ.out,HY.out,<- bP.out];simp[zbJ,zcz],HF.out⟩
     case measure=>(simp[intOf];omega)
  obtain rfl:k=rs.length:=by omega
  have i1:¬ (rs.length:Int)<(rs.length:Int):=by omega
  rw[List.take_length];have bM:=Lib.run_convert_string_bytes wr 9 22 5 (mkS (txRs rs)) Tryz.underlying9 Tryz.underlying22 Tryz.underlying5;rw[zad]at bM;have bW:=hidX (Lib.bytesWorld_below wr 5 (mkS (txRs rs)));have a6:=hidX (grownCap_ge wr (txRs rs).length 0 5);have bA:=hidX (grownCap_le_maxLen wr (txRs rs).length 0 5 (by unfold maxLen;omega));go_wp2;go_ret;refine ⟨⟨_,rfl,wr.heap.size,_,Lib.bytesCells wr 5 (mkS (txRs rs)),_,rfl,hsz,Lib.bytesWorld_at_new wr 5 (mkS (txRs rs)),.inr (Nat.le_refl _),a6.out,bA.out,?_,?_⟩,HB.out.trans (bW.out.mono hsz)⟩
  ·have h1:=a6.out;have h2:(mkS (txRs rs)).size=(txRs rs).length:=zad _;have h3:(mkS (txRs rs)).data.size=(txRs rs).length:=by simp[mkS]
   unfold Lib.bytesCells;rw[Array.size_append,Array.size_map,Array.size_replicate,h2,h3];omega
  have e:(Lib.bytesCells wr 5 (mkS (txRs rs))).toList=byV (txRs rs) ++ List.replicate (grownCap wr (txRs rs).length 0 5 - (txRs rs).length) (.int .u8 0):=by
   have h2:(mkS (txRs rs)).size=(txRs rs).length:=zad _;unfold Lib.bytesCells;rw[Array.toList_append,Array.toList_map,Array.toList_replicate,h2];rfl
  rw[e];have h2:=zf3 (txRs rs);rw[<- h2];exact List.take_left
theorem zo9(x:Bs):({ data:=#[40,43,32] }:ByteArray) ++ mkS x ++ { data:=#[32,49,41] }=mkS ([40,43,32] ++ x ++ [32,49,41]):=by
 have e1:({ data:=#[40,43,32] }:ByteArray)=mkS [40,43,32]:=rfl;have e2:({ data:=#[32,49,41] }:ByteArray)=mkS [32,49,41]:=rfl;rw[e1,e2,zaV,zaV]
theorem zpT(n:Nat):({ data:=#[40,114,117,108,101,32,100,101,101,112,32,48,32,40,97,41,32,61,62,32,40,97,100,100,32,97,32] }:ByteArray) ++ mkS (zeM n) ++ { data:=#[41,41] }=mkS (ziV n):=by
 have e1:({ data:=#[40,114,117,108,101,32,100,101,101,112,32,48,32,40,97,41,32,61,62,32,40,97,100,100,32,97,32] }:ByteArray)=mkS zlr:=rfl;have e2:({ data:=#[41,41] }:ByteArray)=mkS [41,41]:=rfl;rw[e1,e2,zaV,zaV];rfl
theorem zl7(n:Nat)(w:World)(hn:n<=1000):Calls Tryz.prog 25 #[.int .i64 (n:Int)] w fun e w'=>e=.returned (.string (mkS (ziV n)))/\Below w.heap.size w w':=by
 go_enter Tryz.func25,Tryz.ntmps25;go_wp2
 go_loopw [0,3] (fun I U wr=>∃ k:Nat,k<=n/\I=.int .i64 ((n - k:Nat):Int)/\U=.string (mkS (zeM k))/\Below w.heap.size w wr) (fun I _ _=>(intOf I).toNat)
 case atStart=>exact ⟨0,Nat.zero_le _,rfl,rfl,Below.refl _ _⟩
 case round=>
  obtain ⟨k,hk,rfl,rfl,hb⟩:=hrel;have O:=hidX hb;clear hb;have hl:=zgA k;by_cases Z:k<n
  ·have i0:(0:Int)<((n - k:Nat):Int):=by omega
   have G:¬ 9223372036854775807<3+(mkS (zeM k)).size:=by rw[zad];omega
   have z2:¬ 9223372036854775807<3+(mkS (zeM k)).size+3:=by rw[zad];omega
   have z3:¬ 9223372036854775807<(({ data:=#[40,43,32] }:ByteArray) ++ mkS (zeM k)).size+3:=by rw[ByteArray.size_append,zad];have:({ data:=#[40,43,32] }:ByteArray).size=3:=rfl;omega
   have E:=hidX (show _=mkS (zeM (k+1)) from zo9 (zeM k));clear hl;generalize zeM k=X at G z2 z3 E;go_wp2;go_roundw
   case rel=>exact ⟨k+1,by omega,by go_num,by rw[E.out],O.out⟩
   case measure=>(simp[intOf];omega)
  obtain rfl:k=n:=by omega
  have i0:¬ (0:Int)<((k - k:Nat):Int):=by omega
  have G:¬ 9223372036854775807<27+(mkS (zeM k)).size:=by rw[zad];omega
  have z2:¬ 9223372036854775807<27+(mkS (zeM k)).size+2:=by rw[zad];omega
  have E:=hidX (zpT k);generalize hX:zeM k=X at G z2 E;clear hX hl;go_wp2;go_ret;exact ⟨by rw[E.out];rfl,O.out⟩
theorem ziN(wr:World)(base:Nat)(l:Bs)(hb:base<=wr.heap.size)(hl:l.length<=1000000):BOwn (Lib.bytesWorld wr 5 (mkS l)) base (.slice (some ⟨wr.heap.size,0,none⟩) l.length (grownCap wr l.length 0 5)) l:=by
 have E:=grownCap_ge wr l.length 0 5;have G:=grownCap_le_maxLen wr l.length 0 5 (by unfold maxLen;omega);refine ⟨wr.heap.size,_,Lib.bytesCells wr 5 (mkS l),_,rfl,hb,Lib.bytesWorld_at_new wr 5 (mkS l),.inr (Nat.le_refl _),E,G,?_,?_⟩
 ·have h2:(mkS l).size=l.length:=zad _;have h3:(mkS l).data.size=l.length:=by simp[mkS]
  unfold Lib.bytesCells;rw[Array.size_append,Array.size_map,Array.size_replicate,h2,h3];omega
 have e:(Lib.bytesCells wr 5 (mkS l)).toList=byV l ++ List.replicate (grownCap wr l.length 0 5 - l.length) (.int .u8 0):=by
  have h2:(mkS l).size=l.length:=zad _;unfold Lib.bytesCells;rw[Array.toList_append,Array.toList_map,Array.toList_replicate,h2];rfl
 rw[e];have h2:=zf3 l;rw[<- h2];exact List.take_left
theorem BOwn.txa{w:World}{g:Nat}{v:Value}{l:Bs}(h:BOwn w (g+1) v l):TxA w g v l:=by
 obtain ⟨a,c,e,h1,h2⟩:=h.cells;refine ⟨a,c,e,h1,h2,fun b o ea=>?_⟩;have:=h.lt b (by rw[e,ea];rfl);exact ⟨by omega,this.2⟩
theorem ziR(x:Ru)(a_pats:Option Addr)(c_pats:Nat)(a_exprs:Option Addr)(c_exprs:Nat)(a_acts:Option Addr)(c_acts:Nat)(y:Ac)(a_args:Option Addr)(c_args:Nat)(pb nx:Nat)(S:List Sp){q:Option Nat}(w0 w:World)
  (ab:Below w0.heap.size w0 w) (G:zbG q w0 a_exprs x.exprs) (I:zbL q w0 a_args y.args) (hS:Spans x.exprs S) (af:S.length=x.exprs.length) (ae:x.exprs.length<=60) (U:y.cls.size<=maxLen) (Z:y.args.length<=1048576)
  (hp:w.cell? ⟨pb,0,none⟩=some (.int .i64 (nx:Int))) (hf:w.frozen? ⟨pb,0,none⟩=false) (ad:w0.heap.size<=pb) (X:pb<w.heap.size) (ag:nx<=60) :
  Calls Tryz.prog 67 #[.agg #[.string x.name,.int .i64 x.sal,.slice a_pats x.pats.length c_pats,.slice a_exprs x.exprs.length c_exprs,.slice a_acts x.acts.length c_acts],.agg #[.int .i64 y.kind,.int .i64 y.k,.string y.cls,.slice a_args y.args.length c_args],.pointer (some ⟨pb,0,none⟩)] w fun e w'=>
   e=.returned (.bool (gAc S y nx).isSome)/\Below pb w w'/\(∀ nx',gAc S y nx=some nx'->nx'<=60/\w'.cell? ⟨pb,0,none⟩=some (.int .i64 (nx':Int)))/\w'.frozen? ⟨pb,0,none⟩=false:=by
 cases O:(zav y && decide (y.args.length<=6))
 ·exact zjJ x a_pats c_pats a_exprs c_exprs a_acts c_acts y a_args c_args pb nx S w U Z hf X O
 have ah:=O;simp only[Bool.and_eq_true,decide_eq_true_eq]at ah;obtain ⟨E,_⟩:=ah;have hk:y.kind=1/\gCls y.cls=true/\y.k=0∨y.kind=2/\y.cls.toList.isEmpty=true/\¬ y.k < -1000000/\¬ 1000000<y.k/\¬ (0:Int)<(y.args.length:Int)∨y.kind=3/\y.cls.toList.isEmpty=true/\¬ y.k < -1000000/\¬ 1000000<y.k∨y.kind=4/\y.cls.toList.isEmpty=true/\y.k=0/\¬ (0:Int)<(y.args.length:Int):=by
  unfold zav at E;split at E
  ·rename_i h;simp at h E;exact .inl ⟨h,E.1,E.2⟩
  split at E
  ·rename_i h;simp[isE,kOk]at h E;exact .inr (.inl ⟨h,by simp[E.1.1],by omega,by omega,by simp[E.2]⟩)
  split at E
  ·rename_i h;simp[isE,kOk]at h E;exact .inr (.inr (.inl ⟨h,by simp[E.1],by omega,by omega⟩))
  split at E
  ·rename_i h;simp[isE]at h E;exact .inr (.inr (.inr ⟨h,by simp[E.1],E.2.1,by simp[E.2.2]⟩))
  cases E
 rcases hk with ⟨k1,hg,k0⟩ | ⟨k2,he,b1,b2,ha⟩ | ⟨k3,he,b1,b2⟩ | ⟨k4,he,k0,ha⟩
 ·exact ziA x a_pats c_pats a_exprs c_exprs a_acts c_acts y a_args c_args pb nx S w0 w ab G I hS af ae U Z hp hf ad X ag O k1 hg k0
 ·exact ziS x a_pats c_pats a_exprs c_exprs a_acts c_acts y a_args c_args pb nx S w0 w ab G I hS af ae U Z hp hf ad X ag O k2 he b1 b2 ha
 ·exact zit x a_pats c_pats a_exprs c_exprs a_acts c_acts y a_args c_args pb nx S w0 w ab G I hS af ae U Z hp hf ad X ag O k3 he b1 b2
 exact zig x a_pats c_pats a_exprs c_exprs a_acts c_acts y a_args c_args pb nx S w0 w ab G I hS af ae U Z hp hf ad X ag O k4 he k0 ha
theorem zhp(a:Option Addr)(c:Nat)(es:List Ex)(S:List Sp)(e:Ex)(w:World){q:Option Nat}(hv:zbG q w a es)(hl:es.length<=60)(hS:Spans es S)(he:es[S.length]?=some e)(hs:e.le maxLen)(aj:0<=e.op)(ae:e.op<256)(hy:(zaJ S e).isSome=true) :
  Calls Tryz.prog 66 #[.slice a es.length c,.int .i64 (S.length:Int)] w fun e' w'=>e'=.returned (.bool true)/\Below w.heap.size w w':=by
 obtain ⟨ao,ah⟩:=hs;have ax:S.length<es.length:=(List.getElem?_eq_some_iff.1 he).1;have B1:=zHB w;have ap:=hv;obtain ⟨b,o,rfl,hq,c0,c1,c2,c3,c4,c5,c6,c7⟩:=hv.get he;clear hq hv;by_cases k0:e.kind=0
 ·have I:(e.kind==0)=true:=by simp[k0]
  cases h1:(e.op==0) <;> cases h2:(e.a==0) <;> cases h3:(e.b==0) <;> cases Z:e.var.toList.isEmpty
  all_goals try (exfalso;simp[zaJ,zaZ,isE,I,h1,h2,h3,Z]at hy;done)
  have hg:gVal e.val=true:=by simpa[zaJ,zaZ,isE,I,h1,h2,h3,Z] using hy
  have HG:=ziW (zdI e.val);rw[hg]at HG;go_enter Tryz.func66,Tryz.ntmps66;go_wp2_with (go_at_call 114;refine (HG.out _ ah).mono ?_;rintro e' w' ⟨rfl,G⟩);go_ret;exact ⟨rfl,(B1 _).trans (G.mono (by simp))⟩
 by_cases k1:e.kind=1
 ·have I:(e.kind==0)=false:=by simp[k1]
  have e1:(e.kind==1)=true:=by simp[k1]
  cases h1:(e.op==0) <;> cases h2:(e.a==0) <;> cases h3:(e.b==0) <;> cases Z:gSym e.var.data.toList
  all_goals try (exfalso;simp[zaJ,zaZ,I,e1,h1,h2,h3,Z]at hy;done)
  have hg:zbm e.val=true:=by simpa[zaJ,zaZ,I,e1,h1,h2,h3,Z] using hy
  have HG:=ziW (zdx e.val);rw[hg]at HG;go_enter Tryz.func66,Tryz.ntmps66;go_wp2_with (first | (go_at_call 64;refine (zbp e.var _ ao).mono ?_;rintro e' w' ⟨rfl,rfl⟩) | (go_at_call 115;refine (HG.out _).mono ?_;rintro e' w' ⟨rfl,G⟩));go_ret;exact ⟨rfl,(B1 _).trans (G.mono (by simp))⟩
 have I:(e.kind==0)=false:=by simpa using k0
 have e1:(e.kind==1)=false:=by simpa using k1
 by_cases k2:e.kind=2
 ·have al:(zaJ S e).isSome=(if opOk S e then zdq S e.a e.b else none).isSome:=by simp[zaJ,k2]
  clear c0 c1 c2 c3 c4 c5 c6 c7;rw[al]at hy;have O:opOk S e=true:=by
   cases h:opOk S e
   ·rw[h]at hy;simp at hy
   rfl
  rw[O,if_pos rfl]at hy;simp only[opOk,isE,Bool.and_eq_true,decide_eq_true_eq]at O;obtain ⟨ar,ak,ad,au,af,ag⟩:=O;obtain ⟨bn,ab⟩:=Int.eq_ofNat_of_zero_le af;have aq:bn+1=S.length:=by omega
  obtain ⟨sb,E⟩:∃ s,S[bn]?=some s:=⟨S[bn]'(by omega),by simp⟩
  obtain ⟨ea,U⟩:=Int.eq_ofNat_of_zero_le ag;have aw:=hS.first_le bn sb E;unfold zdq at hy;rw[ab,U,Int.toNat_natCast,Int.toNat_natCast,E]at hy
  cases X:S[ea]? with
  | none=>rw[X]at hy;simp at hy
  | some sa=>
   rw[X]at hy;have hm:(ea:Int)=(sb.1:Int) - 1/\1+max sa.2 sb.2<=20:=by
    by_cases h:(ea:Int)=(sb.1:Int) - 1/\1+max sa.2 sb.2<=20
    ·exact h
    have h':(decide ((ea:Int)=(sb.1:Int) - 1) && decide (1+max sa.2 sb.2<=20))=false:=by
     rw[Bool.eq_false_iff];intro h2;rw[Bool.and_eq_true,decide_eq_true_eq,decide_eq_true_eq]at h2;exact h h2
    simp only[h']at hy;simp at hy
   have hX:=zjB _ c es S e w ap hl he aj ae k2 ar ak ad hS bn aq ab sb E (by omega) (by rw[U];simpa using hm.1) ea sa U X;rw[decide_eq_true hm.2]at hX;exact hX
 exfalso;have e2:(e.kind==2)=false:=by simpa using k2
 simp[zaJ,I,e1,e2]at hy
end Go.Proofs.YtjjjagepnnbebaaGreatDoor
