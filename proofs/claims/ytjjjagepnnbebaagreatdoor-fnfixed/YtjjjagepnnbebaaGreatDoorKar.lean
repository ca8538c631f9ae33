/-
  OUR OWN TEXT. Yc2, Sc6, Yc5, one behind the other.
-/
import Derived.Test.YtjjjagepnnbebaaGreatDoorKaq
import Derived.Test.YtjjjagepnnbebaaGreatDoorKao
import Derived.Deep.DrawnRows
import Derived.BigQuiet
set_option maxHeartbeats 3200000
set_option maxRecDepth 100000
namespace Go.Proofs.YtjjjagepnnbebaaGreatDoor
open Go.RowKit
attribute [local go_sem ↓] Go.wp_at_zero Go.wp_at_succ
theorem zpN{w:World}{b o:Nat}{x:Value}(h:w.cell? ⟨b,o,none⟩=some x):b<w.heap.size:=by
 by_cases hp:b<w.heap.size
 ·exact hp
 have:w.heap[b]?=none:=Array.getElem?_eq_none (by omega);simp[World.cell?,this]at h
theorem zdk{x:Ru}{i:Nat}(E:Hid (shape x=none))(hx:Hid (shape x=some i)):False:=by
 have h:=E.out;rw[hx.out]at h
 cases h
theorem zj8(x:Ru)(a_pats:Option Addr)(c_pats:Nat)(a_exprs:Option Addr)(c_exprs:Nat)(a_acts:Option Addr)(c_acts:Nat){q:Option Nat}(w:World)(ak:zdv q w a_pats x.pats)(I:zbG q w a_exprs x.exprs)(al:zdY q w a_acts x.acts)(aR:x.le 1048576)(ho:zg8 x.exprs)(H0:Hid (shape x=none)) :
  Calls Tryz.prog 28 #[.agg #[.string x.name,.int .i64 x.sal,.slice a_pats x.pats.length c_pats,.slice a_exprs x.exprs.length c_exprs,.slice a_acts x.acts.length c_acts]] w fun e w'=>e=.returned (.int .i64 (-1))/\Below w.heap.size w w':=by
 obtain ⟨aG,aA,aB,aF⟩:=aR;have aN:x.name.size<=maxLen:=Nat.le_trans aG zbH;have bh:=aA.1;have bj:=aB.1;have bo:=aF.1;have B0:=zHB w
 cases hg:gSym x.name.data.toList
 ·have G:Hid (shape x=some 0):=show shape x=some 0 from by simp[shape,zck,hg]
  exact (zdk H0 G).elim
 by_cases l6:6<x.pats.length
 ·have aY:(6:Int)<(x.pats.length:Int):=by omega
  have G:Hid (shape x=some 0):=show shape x=some 0 from by simp[shape,zck];omega
  exact (zdk H0 G).elim
 have aY:¬ (6:Int)<(x.pats.length:Int):=by omega
 by_cases l8:8<x.acts.length
 ·have aX:(8:Int)<(x.acts.length:Int):=by omega
  have G:Hid (shape x=some 0):=show shape x=some 0 from by simp[shape,zck];omega
  exact (zdk H0 G).elim
 have aX:¬ (8:Int)<(x.acts.length:Int):=by omega
 by_cases bn:60<x.exprs.length
 ·have az:(60:Int)<(x.exprs.length:Int):=by omega
  have G:Hid (shape x=some 0):=show shape x=some 0 from by simp[shape,zck];omega
  exact (zdk H0 G).elim
 have az:¬ (60:Int)<(x.exprs.length:Int):=by omega
 have HH:Hid (shape x=match zaI gPt x.pats 1 with | some i=>some i | none=>rest x):=zi2 x (by simp[zck,hg];omega);go_enter Tryz.func28,Tryz.ntmps28;go_wp2_with (go_at_call 64;refine (zbp x.name _ aN).mono ?_;rintro e w' ⟨rfl,rfl⟩)
 go_loopw [34] (fun i wr=>∃ (k:Nat),k<=x.pats.length/\i=.int .i64 k/\(shape x=match zaI gPt (x.pats.drop k) (k+1) with | some i=>some i | none=>rest x)/\zcK wr w.heap.size x a_pats c_pats a_exprs c_exprs a_acts c_acts/\Below w.heap.size w wr) (fun i _=>x.pats.length - (intOf i).toNat)
 case atStart=>exact ⟨0,by omega,rfl,HH.out,zcK.made _ _ _ _ _ _ _ _ _,B0 _⟩
 case round=>
  obtain ⟨k,hk,rfl,hG,E,hb⟩:=hrel;have Z:Hid (shape x=match zaI gPt (x.pats.drop k) (k+1) with | some i=>some i | none=>rest x):=hG;clear hG;by_cases af:k<x.pats.length
  ·obtain ⟨p,ap⟩:∃ p,x.pats[k]?=some p:=⟨x.pats[k],by simp[af]⟩
   obtain ⟨b,o,a_terms,c_terms,rfl,hq,c0,c1,c2,ad⟩:=(ak.below hb).get ap;have aq:=aA.2 p (List.mem_of_getElem? ap);have HD:Hid (x.pats.drop k=p :: x.pats.drop (k+1)):=zaU ap;have B1:=zHB wr
   cases aC:gPt p
   ·have G:Hid (shape x=some (k+1)):=show shape x=_ from by rw[Z.out,HD.out,zaE,aC];rfl
    exact (zdk H0 G).elim
   go_wp2_with (go_at_call 65;refine (zio p a_terms c_terms _ (ad.below (B1 _)) (Nat.le_trans aq.1 zbH) (aq.2.mono zbH (Tm.mono zbH)) aq.2.1).mono ?_;rintro e w1 ⟨rfl,ah⟩);have G:Hid (shape x=match zaI gPt (x.pats.drop (k+1)) (k+1+1) with | some i=>some i | none=>rest x):=show shape x=_ from by rw[Z.out,HD.out,zaE,aC];rfl
   have aE:Below wr.heap.size wr w1:=(B1 _).trans (ah.mono (by simp));go_roundw
   case rel=>exact ⟨k+1,by omega,by go_num,G.out,E.below aE,hb.trans (aE.mono hb.size)⟩
   case measure=>simp[intOf];omega
  have HR:Hid (shape x=rest x):=show shape x=rest x from by rw[Z.out,List.drop_eq_nil_of_le (by omega)];rfl
  have X:=zcp E;obtain ⟨q0,q1,q2,q3,q4⟩:=E;go_wp2;clear q0 q1 q2 q3 q4
  go_loopw [48] (fun i U=>∃ (S:List Sp),S.length<=x.exprs.length/\i=.int .i64 (S.length:Int)/\Spans x.exprs S/\zat [] x.exprs=zat S (x.exprs.drop S.length)/\zcK U w.heap.size x a_pats c_pats a_exprs c_exprs a_acts c_acts/\Below w.heap.size w U) (fun i _=>x.exprs.length - (intOf i).toNat)
  case atStart=>exact ⟨[],by simp,rfl,Spans.nil _,rfl,X.out,hb⟩
  case round=>
   clear X hb Z hk af;obtain ⟨S,hk,rfl,hS,hG,E,hb⟩:=hrel;have Z:=zcp hG;have HS:=zcp hS;have X:=zcp E;clear hG hS;obtain ⟨q0,q1,q2,q3,q4⟩:=E;by_cases af:S.length<x.exprs.length
   ·obtain ⟨e,ag⟩:∃ e,x.exprs[S.length]?=some e:=⟨x.exprs[S.length],by simp[af]⟩
    have HD:Hid (x.exprs.drop S.length=e :: x.exprs.drop (S.length+1)):=zaU ag;have a1:=(aB.mono zbH (Ex.mono zbH)).2 e (List.mem_of_getElem? ag);obtain ⟨aO,aZ⟩:=ho e (List.mem_of_getElem? ag)
    cases aj:zaJ S e with
    | none=>
     have G:Hid (shape x=some (S.length+1)):=show shape x=_ from by
      have h1:zat [] x.exprs=S:=by rw[Z.out,HD.out,zat,aj]
      rw[HR.out];unfold rest;rw[h1,if_pos af]
     exact (zdk H0 G).elim
    | some s=>
     have aQ:=zcp (fun w' h=>zhp a_exprs c_exprs x.exprs S e w' (q:=q) h (by omega) HS.out ag a1 aO aZ (by rw[aj];rfl));have G:Hid (zat [] x.exprs=zat (S ++ [s]) (x.exprs.drop (S.length+1))):=show zat [] x.exprs=_ from by rw[Z.out,HD.out,zat,aj]
     go_wp2_with (go_at_call 66;refine (aQ.out _ (I.below hb)).mono ?_;rintro e' w1 ⟨rfl,ah⟩);go_roundw
     case rel=>exact ⟨S ++ [s],by simp;omega,by simp,HS.out.snoc ag aj,by rw[G.out];simp,X.out.below ah,hb.trans (ah.mono hb.size)⟩
     case measure=>simp[intOf];omega
   have ae:S.length=x.exprs.length:=by omega
   have h1:zat [] x.exprs=S:=by
    rw[Z.out,List.drop_eq_nil_of_le (by omega)];rfl
   have aV:Hid (shape x=zbP S x.acts 0 1):=show shape x=_ from by
    rw[HR.out];unfold rest;rw[h1,if_neg (by omega)]
   have aK:=zcp ae;clear h1 Z HR ae;have bd:w.heap.size<wr.heap.size:=zpN q0;go_wp2;obtain ⟨wo,rfl⟩:∃ u,u=wr:=⟨wr,rfl⟩
   have aJ:Below w.heap.size w (wo.alloc (.cells #[.int .i64 0] 3)):=hb.alloc hb.size _;have ao:=X.out.below (w':=wo.alloc (.cells #[.int .i64 0] 3)) ((Below.refl _ _).alloc (Nat.le_refl _) _);clear q0 q1 q2 q3 q4 X
   go_loopw [62] (fun i U=>∃ (k nk:Nat),k<=x.acts.length/\i=.int .i64 k/\nk<=60/\shape x=zbP S (x.acts.drop k) nk (k+1)/\U.cell? ⟨wo.heap.size,0,none⟩=some (.int .i64 (nk:Int))/\U.frozen? ⟨wo.heap.size,0,none⟩=false/\wo.heap.size<U.heap.size/\zcK U w.heap.size x a_pats c_pats a_exprs c_exprs a_acts c_acts/\Below w.heap.size w U) (fun i _=>x.acts.length - (intOf i).toNat)
   case atStart=>exact ⟨0,0,by omega,rfl,by omega,aV.out,by simp[go_sem],by simp[go_sem],by simp,ao,aJ⟩
   case round=>
    clear aJ ao hb;obtain ⟨k,nk,bb,rfl,a7,hG,aP,a8,aL,E,hb⟩:=hrel;have Z:=zcp hG;have X:=zcp E;clear hG;obtain ⟨q0,q1,q2,q3,q4⟩:=E;by_cases aD:k<x.acts.length
    ·obtain ⟨y,ar⟩:∃ y,x.acts[k]?=some y:=⟨x.acts[k],by simp[aD]⟩
     obtain ⟨b,o,a_args,c_args,rfl,hq,c0,c1,c2,c3,ab⟩:=al.get ar;have d0:=zaa hb c0;have d1:=zaa hb c1;have d2:=zaa hb c2;have d3:=zaa hb c3;clear c0 c1 c2 c3;have aI:=aF.2 y (List.mem_of_getElem? ar);have HD:Hid (x.acts.drop k=y :: x.acts.drop (k+1)):=zaU ar;have O:=zHB wr;have aH:∀ o,Below w.heap.size w (wr.alloc o):=fun o=>hb.alloc hb.size _;have ay:=zcp (fun w' h0 hp hf aT=>ziR x a_pats c_pats a_exprs c_exprs (some ⟨b,o,none⟩) c_acts y a_args c_args wo.heap.size nk S (q:=q) w w' h0 I ab HS.out aK.out (by omega) (Nat.le_trans aI.1 zbH) aI.2 hp hf (by omega) aT a7);have bl:∀ o,(wr.alloc o).cell? ⟨w.heap.size,0,none⟩=_:=fun o=>zaa (O o) q0;have bf:∀ o,(wr.alloc o).cell? ⟨w.heap.size,1,none⟩=_:=fun o=>zaa (O o) q1;have bk:∀ o,(wr.alloc o).cell? ⟨w.heap.size,2,none⟩=_:=fun o=>zaa (O o) q2;have bm:∀ o,(wr.alloc o).cell? ⟨w.heap.size,3,none⟩=_:=fun o=>zaa (O o) q3;have bi:∀ o,(wr.alloc o).cell? ⟨w.heap.size,4,none⟩=_:=fun o=>zaa (O o) q4;clear q0 q1 q2 q3 q4
     cases au:gAc S y nk with
     | none=>
      have G:Hid (shape x=some (k+1)):=show shape x=_ from by rw[Z.out,HD.out,zcL,au]
      exact (zdk H0 G).elim
     | some ax=>
      rw[au]at ay;have G:Hid (shape x=zbP S (x.acts.drop (k+1)) ax (k+1+1)):=show shape x=_ from by rw[Z.out,HD.out,zcL,au]
      go_wp2_with (go_at_call 67;refine (ay.out _ (aH _) (zaa (O _) aP) (by rw[(bcell (O _)).2 _ _ aL];exact a8) (by simp;omega)).mono ?_;rintro e w3 ⟨rfl,aw,aW,aU⟩);obtain ⟨aM,aS⟩:=aW ax rfl;have a6:=aw.size;go_roundw
      case rel=>exact ⟨k+1,ax,by omega,by go_num,aM,G.out,aS,aU,by simp at a6;omega,(X.out.below (O _)).belowB aw (by omega),(aH _).trans (aw.mono (by omega))⟩
      case measure=>simp[intOf];omega
    have e0:x.acts.drop k=[]:=List.drop_eq_nil_of_le (by omega);have HE:Hid (shape x=if nk=S.length then none else some (k+1)):=show shape x=_ from by rw[Z.out,e0];rfl
    by_cases ba:nk=x.exprs.length
    ·have bc:((nk:Int) != (x.exprs.length:Int))=false:=by simp;omega
     go_wp2;go_ret;exact ⟨rfl,hb⟩
    have G:Hid (shape x=some (k+1)):=show shape x=_ from by rw[HE.out,if_neg (by have:=aK.out;omega)]
    exact (zdk H0 G).elim
theorem zkA(x:Ru)(a_pats:Option Addr)(c_pats:Nat)(a_exprs:Option Addr)(c_exprs:Nat)(a_acts:Option Addr)(c_acts:Nat){q:Option Nat}(w:World)(ay:zdv q w a_pats x.pats)(Z:zbG q w a_exprs x.exprs)(aA:zdY q w a_acts x.acts)(bw:x.le 1048576)(aL:shape x=none) :
  Calls Tryz.prog 30 #[.agg #[.string x.name,.int .i64 x.sal,.slice a_pats x.pats.length c_pats,.slice a_exprs x.exprs.length c_exprs,.slice a_acts x.acts.length c_acts]] w fun e w'=>e=.returned (.int .i64 (zmT (scope x)))/\Below w.heap.size w w':=by
 obtain ⟨bO,aT,aV,bl⟩:=bw;obtain ⟨b0,cc,bL,aO,aj,al⟩:=zfX aL;obtain ⟨SS,aw⟩:∃ S,S=zat [] x.exprs:=⟨_,rfl⟩
 have a1:Spans x.exprs SS:=by rw[aw];exact (zb0 (Spans.nil _) rfl).1
 have ap:zbP SS x.acts 0 1=none:=by rw[aw];exact zl0 aL
 rw[<- aw]at aj;have bo:=za9 a1;have au:=za9 ap;have bI:=za9 aj;have b4:=za9 al;have bD:=za9 aO;have bU:=za9 aV;have bz:=za9 bl;have aX:=za9 aT;clear aw a1 ap aj al aO aL aV bl aT;obtain ⟨HH⟩:Nonempty (Hid (scope x=match zbO x.pats [] 1 with | .inl i=>some i | .inr known=>zeG x known)):=⟨ziy x⟩
 have B0:=zHB w;go_enter Tryz.func30,Tryz.ntmps30;go_wp2
 go_loopw [3,16] (fun kv i wr=>∃ (k:Nat) (known:List ByteArray) (a:Option Addr) (c:Nat),k<=x.pats.length/\i=.int .i64 k/\kv=.slice a known.length c/\zbO x.pats [] 1=zbO (x.pats.drop k) known (k+1)/\known.length<=6 * k/\(a=none->known.length=0)/\zcl none wr a known/\zcK wr w.heap.size x a_pats c_pats a_exprs c_exprs a_acts c_acts/\Below w.heap.size w wr) (fun _ i _=>x.pats.length - (intOf i).toNat)
 case atStart=>exact ⟨0,[],none,0,by omega,rfl,rfl,rfl,by simp,fun _=>rfl,zbf.nil,zcK.made _ _ _ _ _ _ _ _ _,B0 _⟩
 case round=>
  obtain ⟨k,known,a,c,hk,rfl,rfl,hG,b6,hnil,ao,E,hb⟩:=hrel;have HG:=za9 hG;have ah:=za9 E;have ab:=za9 ao;have aE:=za9 hnil;clear hG ao hnil;have a6:w.heap.size<wr.heap.size:=ziL E.1;by_cases bH:k<x.pats.length
  ·obtain ⟨p,ar⟩:∃ p,x.pats[k]?=some p:=⟨x.pats[k],by simp[bH]⟩
   obtain ⟨b,o,a_terms,c_terms,rfl,hq,c0,c1,c2,af⟩:=(ay.below hb).get ar;have bT:=aX.out.2 p (List.mem_of_getElem? ar);have bN:=bD.out p (List.mem_of_getElem? ar);have HD:Hid (x.pats.drop k=p :: x.pats.drop (k+1)):=zaU ar;have bC:=za9 af;obtain ⟨U,rfl⟩:∃ u,u=wr:=⟨wr,rfl⟩
   have B1:=zHB U;clear E af;go_wp2_with (at_builtin;refine zag (by rfl) (.tmp 21) (.tmp 22) 75 (by rfl) (U.heap.size+1) 9 _ 1 16 Tryz.underlying75 zng (by rfl) (by omega) _ 0 [] (by rfl) (World.ownsRow_nil _ _ _ _) a known.length c (by rfl) (known.map Value.string) (by simp) aE.out (znI (ab.out.below (B1 _))) (zpA known) (by unfold maxLen;omega) (by omega) (by simp) ?_;intro a2 bk w2 bp aU bs;have aM:Below (U.heap.size+1) (U.alloc (.cells #[.bool p.neg,.string p.cls,.slice a_terms p.terms.length c_terms] 78)) w2:=((Below.refl _ _).grown aU.out (by simp) (fun j hj=>by cases hj));have d2:w2.cell? ⟨U.heap.size,2,none⟩=some (.slice a_terms p.terms.length c_terms):=(aM.cell (p:=⟨U.heap.size,2,none⟩) (by simp)).trans (by simp[go_sem]));have aJ:w2.ownsRow (U.heap.size+1) 9 1 (.slice a2 known.length bk) known.length (known.map Value.string):=by
    have:=bp.out;simpa using this
   clear bp aU bs d2 c0 c1 c2 hq
   go_loopw [6,27] (fun hv i ak=>∃ (j:Nat) (here:List ByteArray) (a':Option Addr) (c':Nat),j<=p.terms.length/\i=.int .i64 j/\hv=.slice a' here.length c'/\zaz p.terms known=zaz (p.terms.drop j) here/\here.length<=6 * k+j/\ak.ownsRow (U.heap.size+1) 9 1 (.slice a' here.length c') here.length (here.map Value.string)/\Below (U.heap.size+1) (U.alloc (.cells #[.bool p.neg,.string p.cls,.slice a_terms p.terms.length c_terms] 78)) ak) (fun _ i _=>p.terms.length - (intOf i).toNat)
   case atStart=>exact ⟨0,known,a2,bk,by omega,rfl,by simp,rfl,by omega,aJ,aM⟩
   case round=>
    clear aJ aM;obtain ⟨j,here,a',c',hj,rfl,rfl,hT,bY,hown,G⟩:=hrel;have HT:=za9 hT;have HO:=za9 hown;clear hT hown;have aN:Below U.heap.size U wr:=(B1 _).trans (G.mono (by omega));have X:Below w.heap.size w wr:=hb.trans (aN.mono hb.size);have hsz:=G.size;have A1:∀ o,Below (U.heap.size+1) (U.alloc (.cells #[.bool p.neg,.string p.cls,.slice a_terms p.terms.length c_terms] 78)) (wr.alloc o):=fun o=>G.alloc (by simp at hsz;omega) _;by_cases aP:j<p.terms.length
    ·obtain ⟨t,aW⟩:∃ t,p.terms[j]?=some t:=⟨p.terms[j],by simp[aP]⟩
     obtain ⟨b',o',ea,hq,c0,c1,c2,c3,c4,c5⟩:=(bC.out.below aN).get aW;subst ea;have ax:Hid (p.terms.drop j=t :: p.terms.drop (j+1)):=zaU aW;have AW:∀ o,Below w.heap.size w (wr.alloc o):=fun o=>X.alloc X.size _;have R1:=zHB wr;by_cases k2:t.kind=2
     ·have HN:Hid (zaz p.terms known=zaz (p.terms.drop (j+1)) (here ++ [t.var])):=show zaz p.terms known=_ from by rw[HT.out,ax.out,zbl];simp[asks,k2]
      rw[k2]at c0;go_wp2_with (at_builtin;refine zag (by rfl) (.tmp 51) (.tmp 54) 75 (by rfl) (U.heap.size+1) 9 _ 1 16 Tryz.underlying75 zng (by rfl) (by omega) _ here.length _ (by rfl) ((HO.out.alloc _).alloc _) (some ⟨wr.heap.size+1,0,none⟩) 1 1 (by rfl) [.string t.var] (by rfl) (fun e=>by cases e) (zg0 _ _ _ _ (by simp)) (by simp[Value.oneCell']) (by unfold maxLen;omega) (by omega) (by simp at hsz ⊢;omega) ?_;intro a3 aR w3 bB bu b3);have bG:=(((A1 _).alloc (by simp at hsz;simp;omega) _).grown bu.out (by simp at hsz;simp;omega) (fun g hg=>(HO.out.lt g hg).1))
      have bj:w3.ownsRow (U.heap.size+1) 9 1 (.slice a3 (here ++ [t.var]).length aR) (here ++ [t.var]).length ((here ++ [t.var]).map Value.string):=by
       have:=bB.out;simpa using this
      go_roundw
      case rel=>exact ⟨j+1,here ++ [t.var],a3,aR,by omega,by go_num,by simp,HN.out,by simp;omega,bj,bG⟩
      case measure=>simp[intOf];omega
     by_cases k3:t.kind=3/\t.var.toList.isEmpty=false
     ·obtain ⟨k3,v0⟩:=k3;rw[k3]at c0;have hI:=za9 (fun w' h=>zeu t.var a' c' here w' (q:=none) h (by omega))
      cases hm:memB t.var here
      all_goals
       rw[hm]at hI;go_wp2_with (go_at_call 68;refine (hI.out _ ((zcl.owns HO.out).below (R1 _))).mono ?_;rintro e' w1 ⟨rfl,rfl⟩)
      ·have HX:Hid (scope x=some (k+1)):=show scope x=_ from by
        have hz:zaz p.terms known=none:=by
         rw[HT.out,ax.out,zbl];simp[asks,k3,isE,hm];intro h;simp[h]at v0
        rw[HH.out,HG.out,HD.out,zct,hz]
       go_ret;exact ⟨zcc (by rw[HX.out];simp[zmT]),AW _⟩
      have HN:Hid (zaz p.terms known=zaz (p.terms.drop (j+1)) here):=show zaz p.terms known=_ from by rw[HT.out,ax.out,zbl];simp[k3,hm]
      go_roundw
      case rel=>exact ⟨j+1,here,a',c',by omega,by go_num,rfl,HN.out,by omega,HO.out.alloc _,A1 _⟩
      case measure=>simp[intOf];omega
     have HN:Hid (zaz p.terms known=zaz (p.terms.drop (j+1)) here):=show zaz p.terms known=_ from by
      have ha:asks t=false:=by
       unfold asks isE;by_cases h3:t.kind=3
       ·have:t.var.toList.isEmpty=true:=by cases h:t.var.toList.isEmpty <;> simp_all
        simp[this]
       simp[h3]
      rw[HT.out,ax.out,zbl,ha];simp[k2]
     by_cases h3:t.kind=3
     focus
      have ca:t.var.toList.isEmpty=true:=by cases h:t.var.toList.isEmpty <;> simp_all
      clear k3;rw[h3]at c0
     rotate_left
     focus
      clear k3
     rotate_left
     all_goals
      go_wp2;go_roundw
      case rel=>exact ⟨j+1,here,a',c',by omega,by go_num,rfl,HN.out,by omega,HO.out.alloc _,A1 _⟩
      case measure=>simp[intOf];omega
    have HN:Hid (zaz p.terms known=some here):=show zaz p.terms known=_ from by
     rw[HT.out,List.drop_eq_nil_of_le (by omega)];rfl
    have d0:wr.cell? ⟨U.heap.size,0,none⟩=some (.bool p.neg):=(G.cell (p:=⟨U.heap.size,0,none⟩) (by simp)).trans (by simp[go_sem]);have br:zcK wr w.heap.size x (some ⟨b,o,none⟩) c_pats a_exprs c_exprs a_acts c_acts:=(ah.out.below (B1 _)).belowB G (by omega)
    cases bh:p.neg
    all_goals
     rw[bh]at d0;have HM:Hid (zbO x.pats [] 1=zbO (x.pats.drop (k+1)) (if p.neg then known else here) (k+1+1)):=show zbO x.pats [] 1=_ from by rw[HG.out,HD.out,zct,HN.out]
     rw[bh]at HM;go_wp2
    ·go_roundw
     case rel=>exact ⟨k+1,here,a',c',by omega,by go_num,rfl,HM.out,by omega,zm3 HO.out,zcl.owns HO.out,br,X⟩
     case measure=>simp[intOf];omega
    go_roundw
    case rel=>exact ⟨k+1,known,a,c,by omega,by go_num,rfl,HM.out,by omega,aE.out,ab.out.below aN,br,X⟩
    case measure=>simp[intOf];omega
  have bt:known.length<=36:=by omega
  have HN:Hid (scope x=zeG x known):=show scope x=_ from by rw[HH.out,HG.out,List.drop_eq_nil_of_le (by omega)];rfl
  obtain ⟨q0,q1,q2,q3,q4⟩:=E;go_wp2;clear q0 q1 q2 q3 q4
  go_loopw [65] (fun i ak=>∃ (k nx:Nat),k<=x.acts.length/\i=.int .i64 k/\zeG x known=zaI (zcx x.exprs known) (x.acts.drop k) (x.pats.length+1+k)/\zbP SS (x.acts.drop k) nx (k+1)=none/\(x.exprs.take nx).all (zbD known)=true/\zcl none ak a known/\zcK ak w.heap.size x a_pats c_pats a_exprs c_exprs a_acts c_acts/\Below w.heap.size w ak) (fun i _=>x.acts.length - (intOf i).toNat)
  case atStart=>exact ⟨0,0,by omega,rfl,rfl,au.out,by simp,ab.out,ah.out,hb⟩
  case round=>
   clear HG ah ab hb hk a6 au;obtain ⟨k,nx,hk,rfl,hG,ap,ag,ao,E,hb⟩:=hrel;have HG:=za9 hG;have au:=za9 ap;have aG:=za9 ag;have ab:=za9 ao;have ah:=za9 E;have a6:w.heap.size<wr.heap.size:=ziL E.1;clear hG ap ag ao;by_cases bc:k<x.acts.length
   ·obtain ⟨y,aK⟩:∃ y,x.acts[k]?=some y:=⟨x.acts[k],by simp[bc]⟩
    obtain ⟨b,o,a_args,c_args,rfl,hq,c0,c1,c2,c3,O⟩:=(aA.below hb).get aK;have bZ:=(bz.out.2 y (List.mem_of_getElem? aK)).2;have HD:Hid (x.acts.drop k=y :: x.acts.drop (k+1)):=zaU aK;have R1:=zHB wr;have AW:∀ o,Below w.heap.size w (wr.alloc o):=fun o=>hb.alloc hb.size _;obtain ⟨nx',a8,aH⟩:∃ n,gAc SS y nx=some n/\zbP SS (x.acts.drop (k+1)) n (k+1+1)=none:=by
     have h:=au.out;rw[HD.out,zcL]at h
     cases hg:gAc SS y nx with
     | none=>rw[hg]at h;cases h
     | some n=>rw[hg]at h;exact ⟨n,rfl,h⟩
    have ae:=zpM a8;have aI:=za9 aH;clear aH a8;by_cases ad:y.args=[]
    ·have bK:nx'=nx:=by
      rw[ad]at ae;have:some nx=some nx':=ae;injection this with this;exact this.symm
     subst bK;have HX:Hid (zeG x known=zaI (zcx x.exprs known) (x.acts.drop (k+1)) (x.pats.length+1+(k+1))):=show zeG x known=_ from by
      rw[HG.out,HD.out,zaE,show zcx x.exprs known y=true by simp[zcx,ad]];rfl
     have aY:y.args.length=0:=by simp[ad]
     rw[aY]at c3;clear ad ae aY E;go_wp2;go_roundw
     case rel=>exact ⟨k+1,nx',by omega,by go_num,HX.out,aI.out,aG.out,ab.out.below (R1 _),ah.out.below (R1 _),AW _⟩
     case measure=>simp[intOf];omega
    obtain ⟨xl,az,bi,b5⟩:=zgY ad ae;have bM:=zi4 bo.out ae;obtain ⟨I,aZ⟩:∃ I,y.args.length=I+1:=⟨y.args.length - 1,by have:=List.length_pos_iff.2 ad;omega⟩
    have aq:y.args[I]?=some (xl:Int):=by
     rw[List.getLast?_eq_getElem?,aZ,Nat.add_sub_cancel]at az;exact az
    obtain ⟨x0,s0,aS,a7,aD⟩:∃ (x0:Nat) (s0:Sp),y.args[0]?=some (x0:Int)/\SS[x0]?=some s0/\s0.1=nx:=by
     cases hy:y.args with
     | nil=>exact absurd hy ad
     | cons v r=>
      rw[hy]at ae;obtain ⟨x0,s0,rfl,h1,h2,_⟩:=zfG ae;exact ⟨x0,s0,by simp,h1,h2⟩
    have bd:Hid (zcx x.exprs known y=(x.exprs.take (xl+1)).all (zbD known)):=zkt az;obtain ⟨ba,oa,ea,_,g0⟩:=O.get aS;subst ea;obtain ⟨b9,bR,bF,_,gl⟩:=O.get aq
    cases bF
    have b2:=bI.out;rw[aZ]at c3;have z0:(0:Int)<(I:Int)+1:=by omega
    have z1:¬ (I:Int)+1=0:=by omega
    have z2:(0:Int)<((I+1:Nat):Int):=by omega
    have z3:(((I+1:Nat):Int)==0)=false:=by simp;omega
    have z4:(((I:Int)+1)==0)=false:=by simp;omega
    have bn:=fun o=>zaa (R1 o) g0;have bJ:=fun o=>zaa (R1 o) E.2.2.2.1;have aQ:=za9 (fun o=>(Z.below (AW o)));clear E ad ae az hq;simp only[Nat.add_zero]at g0 bn;go_wp2;have b8:=za9 (O);have bA:=za9 gl;clear z1 z3 z4 gl aS aq g0 c0 c1 c2 c3 O;have hz:=fun n=>zcR a_exprs c_exprs x.exprs SS x0 s0 ((wr.alloc (.cells #[.int .i64 y.kind,.int .i64 y.k,.string y.cls,.slice (some ⟨ba,oa,none⟩) (I+1) c_args] 73)).drewN n) ((aQ.out _).below (za4 (Below.refl _ _))) bo.out a7;have HZ:=za9 hz;clear hz
    go_quiet (first | (go_at_call 69;refine Calls.quiet_of_same (HZ.out _)))
    rw[aD];clear bn bJ aQ aD a7 HZ z0 z2;go_wp2;obtain ⟨wa,rfl⟩:∃ u,u=wr:=⟨wr,rfl⟩
    go_loopw [11] (fun kv bb=>∃ (j:Nat),nx<=j/\j<=xl+1/\kv=.int .i64 (j:Int)/\(x.exprs.take j).all (zbD known)=true/\bb.cell? ⟨wa.heap.size,3,none⟩=some (.slice (some ⟨ba,oa,none⟩) (I+1) c_args)/\Below wa.heap.size wa bb) (fun kv _=>xl+1 - (intOf kv).toNat)
    case atStart=>exact ⟨nx,Nat.le_refl _,by omega,rfl,aG.out,by simp[go_sem],za4 (R1 _)⟩
    case round=>
     obtain ⟨j,bW,bX,rfl,ag,aF,G⟩:=hrel;have aC:=za9 ag;clear ag;have X:Below w.heap.size w wr:=hb.trans (G.mono hb.size);have bm:=ah.out.below G;have bP:=zaa G bA.out;have b1:IntKind.i64.wrap ((I:Int)+1 - 1)=(I:Int):=by rw[show (I:Int)+1 - 1=(I:Int) by omega,IntKind.wrap_i64];omega
     have bV:IntKind.i64.wrap (((I+1:Nat):Int) - 1)=(I:Int):=by rw[show ((I+1:Nat):Int) - 1=(I:Int) by omega,IntKind.wrap_i64];omega
     have bQ:IntKind.i64.wrap (I:Int)=(I:Int):=by rw[IntKind.wrap_i64];omega
     have y0:(0:Int)<=(I:Int):=by omega
     have y1:(I:Int)<((I+1:Nat):Int):=by omega
     have y2:(I:Int)<(I:Int)+1:=by omega
     by_cases aP:j<=xl
     ·obtain ⟨e,aB⟩:∃ e,x.exprs[j]?=some e:=⟨x.exprs[j]'(by omega),by simp⟩
      obtain ⟨be,oe,ee,b7,e0,e1,e2,e3,e4,e5,e6,e7⟩:=(Z.below X).get aB;subst ee;obtain ⟨r0,r1,r2,r3,r4⟩:=bm;have R2:=zHB wr;have v0:(0:Int)<=(j:Int):=by omega
      have v1:(j:Int)<(x.exprs.length:Int):=by omega
      have v2:(j:Int)<=(xl:Int):=by omega
      have hsz:=G.size;have bS:=fun o=>zaa (R2 o) r2;clear r0 r1 r2 r4;by_cases ek:e.kind=1
      ·rw[ek]at e0;have hI:=za9 (fun w' h=>zeu e.var a c known w' (q:=none) h (by omega))
       cases hm:memB e.var known
       all_goals
        rw[hm]at hI;go_wp2_with (go_at_call 68;refine (hI.out _ ((ab.out.below G).below (R2 _))).mono ?_;rintro e' w1 ⟨rfl,rfl⟩)
       ·have HX:Hid (scope x=some (x.pats.length+1+k)):=show scope x=_ from by
         rw[HN.out,HG.out,HD.out,zaE,bd.out,zhu aB (by omega) (show zbD known e=false by simp[zbD,ek,hm])];rfl
        go_ret;exact ⟨zcc (by rw[HX.out];simp[zmT];omega),X.alloc X.size _⟩
       have HJ:Hid ((x.exprs.take (j+1)).all (zbD known)=true):=show (x.exprs.take (j+1)).all (zbD known)=true from by rw[zjd aB,aC.out];simp[zbD,hm]
       go_roundw
       case rel=>exact ⟨j+1,by omega,by omega,by go_num,HJ.out,zaa (R2 _) aF,G.alloc hsz _⟩
       case measure=>simp[intOf];omega
      have HJ:Hid ((x.exprs.take (j+1)).all (zbD known)=true):=show (x.exprs.take (j+1)).all (zbD known)=true from by rw[zjd aB,aC.out];simp[zbD,ek]
      go_wp2;go_roundw
      case rel=>exact ⟨j+1,by omega,by omega,by go_num,HJ.out,zaa (R2 _) aF,G.alloc hsz _⟩
      case measure=>simp[intOf];omega
     have bf:j=xl+1:=by omega
     have v2:¬ (j:Int)<=(xl:Int):=by omega
     have HX:Hid (zeG x known=zaI (zcx x.exprs known) (x.acts.drop (k+1)) (x.pats.length+1+(k+1))):=show zeG x known=_ from by
      rw[HG.out,HD.out,zaE,bd.out,<- bf,aC.out];rfl
     clear bm;go_wp2;go_roundw
     case rel=>exact ⟨k+1,nx',by omega,by go_num,HX.out,aI.out,by rw[bi,<- bf];exact aC.out,ab.out.below G,ah.out.below G,X⟩
     case measure=>simp[intOf];omega
   go_wp2;go_ret;exact ⟨zcc (by rw[HN.out,HG.out,List.drop_eq_nil_of_le (by omega)];rfl),hb⟩
theorem zmW{p:Prop}(h:p):Hid p:=h
def Rz(b:Nat)(w:World):Prop:=(∀ j,j<3->w.cell? ⟨b,j,none⟩=some (.int .i64 0))/\(∀ j,w.frozen? ⟨b,j,none⟩=false)/\b<w.heap.size
theorem Rz.below{b:Nat}{w w':World}(h:Rz b w)(hb:Below w.heap.size w w'):Rz b w':=
 ⟨fun j hj=>zaa hb (h.1 j hj),fun j=>by rw[(bcell hb).2 _ _ h.2.2];exact h.2.1 j,Nat.lt_of_lt_of_le h.2.2 hb.size⟩
theorem Rz.get{b:Nat}{w:World}(h:Rz b w):w.cell? ⟨b,0,none⟩=some (.int .i64 0)/\w.cell? ⟨b,1,none⟩=some (.int .i64 0)/\w.cell? ⟨b,2,none⟩=some (.int .i64 0)/\w.frozen? ⟨b,0,none⟩=false/\w.frozen? ⟨b,1,none⟩=false/\w.frozen? ⟨b,2,none⟩=false:=
 ⟨h.1 0 (by omega),h.1 1 (by omega),h.1 2 (by omega),h.2.1 0,h.2.1 1,h.2.1 2⟩
theorem Rz.made(w:World)(t:TypeId):Rz w.heap.size (w.alloc (.cells #[.int .i64 0,.int .i64 0,.int .i64 0] t)):=
 ⟨fun j hj=>by (match j,hj with | 0,_=>simp[go_sem] | 1,_=>simp[go_sem] | 2,_=>simp[go_sem]),fun j=>by simp[go_sem],by simp⟩
theorem zd3(a:Option Addr)(c:Nat)(rs:List Ru)(q:Option Nat)(w:World)(hv:zdD q w a rs)(hc:rs.length<=c)(aC:zb3 Ru.le 1048576 rs)(ho:∀ x∈rs,zg8 x.exprs)(aV:∀ x∈rs,shape x=none)(bo:rs.length<=16) :
  Calls Tryz.prog 12 #[.slice a rs.length c] w fun e w'=>e=.returned (ckV (chk rs))/\Below w.heap.size w w':=by
 obtain ⟨hl,aC⟩:=aC;have B0:=zHB w;have bl:¬ (16:Int)<(rs.length:Int):=by omega
 have HC:Hid (chk rs=zd1 [] rs 0):=show chk rs=_ from by unfold chk;rw[if_pos (by omega)]
 have bi:=za9 aV;have bb:=za9 aC;have ba:=za9 ho;clear aC ho aV;go_enter Tryz.func12,Tryz.ntmps12;go_wp2
 go_loopw [17] (fun i wr=>∃ (k:Nat),k<=rs.length/\i=.int .i64 k/\chk rs=zd1 (rs.take k) (rs.drop k) k/\Rz w.heap.size wr/\Below w.heap.size w wr) (fun i _=>rs.length - (intOf i).toNat)
 case atStart=>exact ⟨0,by omega,rfl,by rw[HC.out];rfl,Rz.made _ _,B0 _⟩
 case round=>
  obtain ⟨k,hk,rfl,hG,ak,hb⟩:=hrel;have HG:=za9 hG;have bh:=za9 ak;clear hG;by_cases bf:k<rs.length
  ·obtain ⟨x,ax⟩:∃ x,rs[k]?=some x:=⟨rs[k],by simp[bf]⟩
   have aW:=hv.below hb;obtain ⟨b,o,a_pats,c_pats,a_exprs,c_exprs,a_acts,c_acts,rfl,hq,c0,c1,c2,c3,c4,af,X,ag,aT⟩:=aW.get ax;have aY:=bb.out x (List.mem_of_getElem? ax);have bj:=ba.out x (List.mem_of_getElem? ax);have HD:Hid (rs.drop k=x :: rs.drop (k+1)):=zaU ax;have HT:Hid (rs.take (k+1)=rs.take k ++ [x]):=zdG rs k x ax;obtain ⟨wo,rfl⟩:∃ u,u=wr:=⟨wr,rfl⟩
   have B1:=zHB wo;have HP:=za9 af;have HE:=za9 X;have HA:=za9 ag;have G:shape x=none:=bi.out x (List.mem_of_getElem? ax);have aZ:=za9 (fun w' (h0:Below wo.heap.size wo w')=>zj8 x a_pats c_pats a_exprs c_exprs a_acts c_acts (q:=q) w' (af.below h0) (X.below h0) (ag.below h0) aY bj (za9 G));have aE:=zcK.made wo 39 x a_pats c_pats a_exprs c_exprs a_acts c_acts;have aL:=za9 aE;clear af X ag aW ak aE hq aT;have z0:(0:Int)<=(k:Int):=by omega
   have z1:(k:Int)<=(c:Int):=by omega
   go_wp2_with (go_at_call 28;refine (aZ.out _ (B1 _)).mono ?_;rintro e w1 ⟨rfl,az⟩);have aR:Below wo.heap.size wo w1:=(B1 _).trans (az.mono (by simp));have aG:=aL.out.below az;have aM:=(bh.out.below (B1 _)).below az;have aX:=hb.trans (aR.mono hb.size);clear az
   go_loopw [33] (fun i wr=>∃ (j:Nat),j<=k/\i=.int .i64 j/\(rs.take k).any (fun o=>decide (o.name=x.name))=((rs.take k).drop j).any (fun o=>decide (o.name=x.name))/\zcK wr wo.heap.size x a_pats c_pats a_exprs c_exprs a_acts c_acts/\Rz w.heap.size wr/\Below wo.heap.size wo wr) (fun i _=>k - (intOf i).toNat)
   case atStart=>exact ⟨0,by omega,rfl,rfl,aG,aM,aR⟩
   case round=>
    clear aR aG aM aX c0 c1 c2 c3 c4;obtain ⟨j,hj,rfl,hN,aj,ak,O⟩:=hrel;have HN:=za9 hN;have ar:=za9 aj;have U:=za9 ak;clear hN;have aA:Below w.heap.size w wr:=hb.trans (O.mono hb.size);have aK:(rs.take k).length=k:=by simp;omega
    by_cases bn:j<k
    ·obtain ⟨y,ay⟩:∃ y,(rs.take k)[j]?=some y:=⟨(rs.take k)[j]'(by omega),List.getElem?_eq_getElem _⟩
     have aI:zdD q wr (some ⟨b,o,none⟩) (rs.take k):=zbf.take (hv.below aA) k;obtain ⟨b2,o2,a1,k1,a2,k2,a3,k3,ee,hq,c0,c1,c2,c3,c4,_,_,_⟩:=aI.get ay
     cases ee
     have aS:Hid ((rs.take k).drop j=y :: (rs.take k).drop (j+1)):=zaU ay;have R1:=zHB wr;have bu:∀ o,(wr.alloc o).cell? ⟨wo.heap.size,0,none⟩=some (.string x.name):=fun o=>zaa (R1 o) aj.1;have bw:wo.heap.size<wr.heap.size:=ziL aj.1;have v1:(j:Int)<(k:Int):=by omega
     have v0:(0:Int)<=(j:Int):=by omega
     clear aI aj aK
     cases e1:(y.name.toList==x.name.toList)
     ·have HX:Hid ((rs.take k).any (fun o=>decide (o.name=x.name))=((rs.take k).drop (j+1)).any (fun o=>decide (o.name=x.name))):=show _=_ from by
       rw[zb1]at e1;rw[HN.out,aS.out,List.any_cons,e1];rfl
      clear ak;go_wp2;go_roundw
      case rel=>exact ⟨j+1,by omega,by go_num,HX.out,ar.out.below (R1 _),U.out.below (R1 _),O.alloc O.size _⟩
      case measure=>simp[intOf];omega
     have HX:Hid (chk rs=(2,(k:Int),0)):=show chk rs=_ from by
      have h1:chk1 (rs.take k) x=(2,0):=by
       rw[zb1]at e1;unfold chk1;rw[G];simp only;rw[HN.out,aS.out,List.any_cons,e1];rfl
      rw[HG.out,HD.out,zb4,h1,if_neg (by simp)]
     have Z:=fun o=>((U.out.below (R1 o)).get)
     have y0:=fun o=>(Z o).1;have y1:=fun o=>(Z o).2.1;have y2:=fun o=>(Z o).2.2.1;have f0:=fun o=>(Z o).2.2.2.1;have f1:=fun o=>(Z o).2.2.2.2.1;have f2:=fun o=>(Z o).2.2.2.2.2;clear Z ak;go_wp2;refine bodyPost_ret (v:=.agg #[.int .i64 2,.int .i64 (k:Int),.int .i64 0]) (by simp[results,Tryz.results12,go_sem,y0,y1,y2]) rfl ⟨by rw[HX.out];rfl,?_⟩;exact (((aA.alloc aA.size _).setCell (Nat.le_refl _) _).setCell (Nat.le_refl _) _).setCell (Nat.le_refl _) _
    have aJ:Hid ((rs.take k).any (fun o=>decide (o.name=x.name))=false):=show _=_ from by rw[HN.out,List.drop_eq_nil_of_le (by omega)];rfl
    have bm:positives x.pats<=x.pats.length:=List.countP_le_length;obtain ⟨bp,bz,bk,a7,aQ,aN⟩:=zfX G;have aB:=zmW (fun w' (h0:Below wo.heap.size wo w')=>zhn x a_pats c_pats a_exprs c_exprs a_acts c_acts (q:=q) w' (HP.out.below h0) (by omega));have au:=zmW (fun w' (h0:Below wo.heap.size wo w')=>zkA x a_pats c_pats a_exprs c_exprs a_acts c_acts (q:=q) w' (HP.out.below h0) (HE.out.below h0) (HA.out.below h0) aY G);have br:¬ (j:Int)<(k:Int):=by omega
    obtain ⟨q0,q1,q2,q3,q4⟩:=aj;clear ak a7 aQ aN aZ aL aK;by_cases hr:1<=positives x.pats/\positives x.pats<=3
    ·have ah:Hid (chk1 (rs.take k) x=match scope x with | some i=>(4,(i:Int)) | none=>match refs x with | some i=>(5,(i:Int)) | none=>(0,0)):=show chk1 (rs.take k) x=_ from by
      unfold chk1;rw[G];simp only;rw[aJ.out,if_neg (by decide),if_pos hr]
      cases scope x with
      | some i=>rfl
      | none=>cases refs x <;> rfl
     have r0:¬ (positives x.pats:Int)<1:=by omega
     have r1:¬ (3:Int)<(positives x.pats:Int):=by omega
     cases aU:scope x with
     | some i=>
      rw[aU]at au ah;simp only[zmT]at au;have bs:(0:Int)<=(i:Int):=by omega
      have HX:Hid (chk rs=(4,(k:Int),(i:Int))):=show chk rs=_ from by rw[HG.out,HD.out,zb4,ah.out,if_neg (by simp)]
      go_wp2_with (first | (go_at_call 29;refine (aB.out _ O).mono ?_;rintro e w2 ⟨rfl,E⟩;obtain ⟨s0,s1,s2,s3,s4⟩:=ar.out.below E;have I:=O.trans (E.mono O.size);obtain ⟨y0,y1,y2,f0,f1,f2⟩:=(U.out.below E).get) | (go_at_call 30;refine (au.out _ I).mono ?_;rintro e w3 ⟨rfl,ab⟩;obtain ⟨t0,t1,t2,t3,t4⟩:=(ar.out.below E).below ab;have aw:=I.trans (ab.mono I.size);obtain ⟨v0,v1,v2,g0,g1,g2⟩:=((U.out.below E).below ab).get) | fail);have aO:=hb.trans (aw.mono hb.size);refine bodyPost_ret (v:=.agg #[.int .i64 4,.int .i64 (k:Int),.int .i64 (i:Int)]) (by simp[results,Tryz.results12,go_sem,v0,v1,v2]) rfl ⟨by rw[HX.out];rfl,?_⟩;exact ((aO.setCell (Nat.le_refl _) _).setCell (Nat.le_refl _) _).setCell (Nat.le_refl _) _
     | none=>
      rw[aU]at au ah;simp only[zmT]at au;simp only at ah;go_wp2_with (first | (go_at_call 29;refine (aB.out _ O).mono ?_;rintro e w2 ⟨rfl,E⟩;obtain ⟨s0,s1,s2,s3,s4⟩:=ar.out.below E;have I:=O.trans (E.mono O.size);obtain ⟨y0,y1,y2,f0,f1,f2⟩:=(U.out.below E).get) | (go_at_call 30;refine (au.out _ I).mono ?_;rintro e w3 ⟨rfl,ab⟩;obtain ⟨t0,t1,t2,t3,t4⟩:=(ar.out.below E).below ab;have aw:=I.trans (ab.mono I.size);obtain ⟨v0,v1,v2,g0,g1,g2⟩:=((U.out.below E).below ab).get) | fail);have aH:=(ar.out.below E).below ab;have al:=(U.out.below E).below ab;clear q0 q1 q2 q3 q4 s0 s1 s2 s3 s4 t0 t1 t2 t3 t4 y0 y1 y2 f0 f1 f2 v0 v1 v2 g0 g1 g2 E ab I aB au r0 r1 aA O
      go_loopw [65] (fun i aP=>∃ (m:Nat),m<=x.acts.length/\i=.int .i64 m/\refs x=zaI (zbI (positives x.pats)) (x.acts.drop m) (x.pats.length+1+m)/\zcK aP wo.heap.size x a_pats c_pats a_exprs c_exprs a_acts c_acts/\Rz w.heap.size aP/\Below wo.heap.size wo aP) (fun i _=>x.acts.length - (intOf i).toNat)
      case atStart=>exact ⟨0,by omega,rfl,rfl,aH,al,aw⟩
      case round=>
       clear aH al aw;obtain ⟨m,hm,rfl,hM,ae,al,ad⟩:=hrel;have HM:=zmW hM;have aF:=zmW ae;have ap:=zmW al;clear hM al;have aq:Below w.heap.size w wr:=hb.trans (ad.mono hb.size);by_cases bc:m<x.acts.length
       ·obtain ⟨y,ay⟩:∃ y,x.acts[m]?=some y:=⟨x.acts[m],by simp[bc]⟩
        obtain ⟨b4,o4,a_args,c_args,ee,hq,c0,c1,c2,c3,a6⟩:=(HA.out.below ad).get ay;subst ee;have aD:Hid (x.acts.drop m=y :: x.acts.drop (m+1)):=zaU ay;have R1:=zHB wr;have bt:=fun o=>zaa (R1 o) ae.2.2.1;clear ae;by_cases ao:y.kind=2∨y.kind=3
        ·rcases ao with ao | ao
         all_goals rw[ao]at c0
         rotate_left
         rotate_left
         all_goals
          by_cases k1:y.k<1
          ·have HX:Hid (chk rs=(5,(k:Int),((x.pats.length+1+m:Nat):Int))):=show chk rs=_ from by
            have h1:refs x=some (x.pats.length+1+m):=by rw[HM.out,aD.out,zaE,show zbI (positives x.pats) y=false by simp[zbI,ao];omega];rfl
            rw[HG.out,HD.out,zb4,ah.out,h1,if_neg (by simp)]
           have Z:=fun o=>((ap.out.below (R1 o)).get)
           have y0:=fun o=>(Z o).1;have y1:=fun o=>(Z o).2.1;have y2:=fun o=>(Z o).2.2.1;have f0:=fun o=>(Z o).2.2.2.1;have f1:=fun o=>(Z o).2.2.2.2.1;have f2:=fun o=>(Z o).2.2.2.2.2;clear Z;go_wp2;refine bodyPost_ret (v:=.agg #[.int .i64 5,.int .i64 (k:Int),.int .i64 ((x.pats.length:Int)+(m:Int)+1)]) (by simp[results,Tryz.results12,go_sem,y0,y1,y2]) rfl ⟨by rw[HX.out];simp[ckV];omega,?_⟩;exact (((aq.alloc aq.size _).setCell (Nat.le_refl _) _).setCell (Nat.le_refl _) _).setCell (Nat.le_refl _) _
          by_cases k2:(positives x.pats:Int)<y.k
          ·have HX:Hid (chk rs=(5,(k:Int),((x.pats.length+1+m:Nat):Int))):=show chk rs=_ from by
            have h1:refs x=some (x.pats.length+1+m):=by rw[HM.out,aD.out,zaE,show zbI (positives x.pats) y=false by simp[zbI,ao];omega];rfl
            rw[HG.out,HD.out,zb4,ah.out,h1,if_neg (by simp)]
           have Z:=fun o=>((ap.out.below (R1 o)).get)
           have y0:=fun o=>(Z o).1;have y1:=fun o=>(Z o).2.1;have y2:=fun o=>(Z o).2.2.1;have f0:=fun o=>(Z o).2.2.2.1;have f1:=fun o=>(Z o).2.2.2.2.1;have f2:=fun o=>(Z o).2.2.2.2.2;clear Z;go_wp2;refine bodyPost_ret (v:=.agg #[.int .i64 5,.int .i64 (k:Int),.int .i64 ((x.pats.length:Int)+(m:Int)+1)]) (by simp[results,Tryz.results12,go_sem,y0,y1,y2]) rfl ⟨by rw[HX.out];simp[ckV];omega,?_⟩;exact (((aq.alloc aq.size _).setCell (Nat.le_refl _) _).setCell (Nat.le_refl _) _).setCell (Nat.le_refl _) _
          have HX:Hid (refs x=zaI (zbI (positives x.pats)) (x.acts.drop (m+1)) (x.pats.length+1+(m+1))):=show refs x=_ from by rw[HM.out,aD.out,zaE,show zbI (positives x.pats) y=true by simp[zbI];omega];rfl
          go_wp2;go_roundw
          case rel=>exact ⟨m+1,by omega,by go_num,HX.out,aF.out.below (R1 _),ap.out.below (R1 _),ad.alloc ad.size _⟩
          case measure=>simp[intOf];omega
        have a8:¬ y.kind=2:=fun h=>ao (.inl h);have bd:¬ y.kind=3:=fun h=>ao (.inr h);have HX:Hid (refs x=zaI (zbI (positives x.pats)) (x.acts.drop (m+1)) (x.pats.length+1+(m+1))):=show refs x=_ from by rw[HM.out,aD.out,zaE,show zbI (positives x.pats) y=true by simp[zbI,a8,bd]];rfl
        go_wp2;go_roundw
        case rel=>exact ⟨m+1,by omega,by go_num,HX.out,aF.out.below (R1 _),ap.out.below (R1 _),ad.alloc ad.size _⟩
        case measure=>simp[intOf];omega
       have h1:refs x=none:=by rw[HM.out,List.drop_eq_nil_of_le (by omega)];rfl
       have HX:Hid (chk rs=zd1 (rs.take (k+1)) (rs.drop (k+1)) (k+1)):=show chk rs=_ from by rw[HG.out,HD.out,zb4,ah.out,h1,if_pos rfl,HT.out]
       clear ae h1;go_wp2;go_roundw
       case rel=>exact ⟨k+1,by omega,by go_num,HX.out,ap.out,aq⟩
       case measure=>simp[intOf];omega
    have ah:Hid (chk1 (rs.take k) x=(3,0)):=show chk1 (rs.take k) x=_ from by
     unfold chk1;rw[G];simp only;rw[aJ.out,if_neg (by decide),if_neg hr]
    have HX:Hid (chk rs=(3,(k:Int),0)):=show chk rs=_ from by rw[HG.out,HD.out,zb4,ah.out,if_neg (by simp)]
    by_cases r0:(positives x.pats:Int)<1
    rotate_left
    focus
     have r1:(3:Int)<(positives x.pats:Int):=by omega
    rotate_left
    all_goals
     go_wp2_with (first | (go_at_call 29;refine (aB.out _ O).mono ?_;rintro e w2 ⟨rfl,E⟩;obtain ⟨s0,s1,s2,s3,s4⟩:=ar.out.below E;have I:=O.trans (E.mono O.size);obtain ⟨y0,y1,y2,f0,f1,f2⟩:=(U.out.below E).get) | fail);have aO:=hb.trans (I.mono hb.size);refine bodyPost_ret (v:=.agg #[.int .i64 3,.int .i64 (k:Int),.int .i64 0]) (by simp[results,Tryz.results12,go_sem,y0,y1,y2]) rfl ⟨by rw[HX.out];rfl,?_⟩;exact ((aO.setCell (Nat.le_refl _) _).setCell (Nat.le_refl _) _).setCell (Nat.le_refl _) _
  have HX:Hid (chk rs=(0,0,0)):=show chk rs=_ from by rw[HG.out,List.drop_eq_nil_of_le (by omega)];rfl
  obtain ⟨y0,y1,y2,f0,f1,f2⟩:=ak.get;go_wp2;refine bodyPost_ret (v:=.agg #[.int .i64 0,.int .i64 0,.int .i64 0]) (by simp[results,Tryz.results12,go_sem,y0,y1,y2]) rfl ⟨by rw[HX.out];rfl,?_⟩;exact ((hb.setCell (Nat.le_refl _) _).setCell (Nat.le_refl _) _).setCell (Nat.le_refl _) _
end Go.Proofs.YtjjjagepnnbebaaGreatDoor
