/-
  OUR OWN TEXT. Pt2, Pt3, one behind the other.
-/
import Derived.Test.YtjjjagepnnbebaaGreatDoorKbc
set_option maxHeartbeats 3200000
set_option maxRecDepth 100000
namespace Go.Proofs.YtjjjagepnnbebaaGreatDoor
open Go.RowKit
attribute [local go_sem ↓] Go.wp_at_zero Go.wp_at_succ
theorem ziP:(Tryz.prog.info? 95).map (fun i=>(i.zero,i.size,i.bytes))=some (some (.agg #[.int .i64 0,.int .i64 0,.string ⟨#[]⟩,.int .i64 0,.int .i64 0,.string ⟨#[]⟩]),6,64):=by kernel_rfl
def Rts(B:Nat)(vs:List Tm)(e:Ending)(w':World):Prop:=∃ la lc,e=.returned (.slice la vs.length lc)/\w'.ownsRow B 95 6 (.slice la vs.length lc) vs.length (vs.flatMap tmC)
theorem zjy{l r:List Wd}{x:Wd}(h:zaj l=.ok (x,r))(hx:pkW x=0):zaX l=.error (3,x.pos):=by
 unfold zaX;rw[h,zbc];simp[hx]
theorem zfB(w:World)(pb:Nat)(src:Bs)(a:Option Addr)(c:Nat)(l:List Wd)(R:List Value)(h:PSt w pb src a c l R):Calls Tryz.prog 137 #[.pointer (some ⟨pb,0,none⟩),.func (.func 138) #[.pointer (some ⟨pb,0,none⟩)] #[]] w (PPost w pb src a c R (Rts w.heap.size) (zbi zaX 6 l)):=by
 have HP:=hidX h;have ae:=h.lt;clear h;go_enter Tryz.func137,Tryz.ntmps137;go_wp2_with fail
 go_loopw [5] (fun v wr=>∃ (la:Option Addr) (lc n:Nat) (M:List Tm) (l':List Wd),M.length+n=6/\v=.slice la M.length lc/\wr.ownsRow w.heap.size 95 6 (.slice la M.length lc) M.length (M.flatMap tmC)/\PSt wr pb src a c l' R/\MkO (some pb) w wr/\zbi zaX 6 l=preL M (zbi zaX n l')) (fun v _=>6 - za6 v)
 case atStart=>exact ⟨none,0,6,[],l,rfl,rfl,World.ownsRow_nil _ _ _ _,HP.out,MkO.refl _ _,by unfold preL;cases zbi zaX 6 l <;> rfl⟩
 case round=>
  obtain ⟨la,lc,n,M,l',aw,rfl,hown,ad,ao,ak⟩:=hrel;have OW:=hidX hown;have PS:=hidX ad;have MK:=hidX ao;have PL:=hidX ak;have G:=hidX (zdZ wr pb src a c l' R 41 ad);clear hown ad ao ak
  cases hr:zaj l' with
  | error f=>
   have HT:Hid (zbi zaX 6 l=.error f):=show _=_ from by rw[PL.out,zjD hr];rfl
   rw[hr]at G;go_wp2_with (first | (go_at_call 46;refine G.out.mono ?_;rintro e w2 ⟨E,rfl⟩;unfold fltE) | fail);exact ⟨rfl,PPost.err HT.out (MK.out.trans (MkO.of_below E))⟩
  | ok p=>
   obtain ⟨x,r⟩:=p;rw[hr]at G;by_cases hx:pkW x=41
   ·have HT:Hid (zbi zaX 6 l=.ok (M,r)):=show _=_ from by rw[PL.out,zg7 hr hx];simp[preL]
    replace G:Hid (Calls Tryz.prog 46 #[.pointer (some ⟨pb,0,none⟩),.int .i32 41] wr fun e w'=>Below wr.heap.size wr w'/\e=.returned (.bool true)):=by
     rw[<- decide_eq_true hx];exact G
    have ap:=hidX (fun u (hu:Below wr.heap.size wr u)=>zbt u pb src a c l' R 41 (PS.out.below hu));rw[show zai 41 l'=.ok (x,r) by unfold zai;rw[hr];simp[hx]]at ap;clear hx;go_wp2_with (first | (go_at_call 46;refine G.out.mono ?_;rintro e w2 ⟨E,rfl⟩) | (go_at_call 85;refine (ap.out _ E).mono ?_;rintro e w4 ⟨I,O,ag⟩;replace O:e=.returned (pwA x):=O;subst O) | fail);go_ret;exact PPost.good HT.out ((MK.out.trans (MkO.of_below E)).trans I) ⟨la,lc,rfl,zbq (zao OW.out E) I ae⟩ ag
   replace G:Hid (Calls Tryz.prog 46 #[.pointer (some ⟨pb,0,none⟩),.int .i32 41] wr fun e w'=>Below wr.heap.size wr w'/\e=.returned (.bool false)):=by
    rw[<- decide_eq_false hx];exact G
   have X:=hidX (fun u (hu:Below wr.heap.size wr u)=>zgH u pb src a c l' R (M.length:Int) 6 (PS.out.below hu));have Z:=hidX (fun u (hu:PSt u pb src a c l' R)=>zn3 u pb src a c l' R hu);by_cases hn:n=0/\pkW x≠0
   ·have HT:Hid (zbi zaX 6 l=.error (4,x.pos)):=show _=_ from by rw[PL.out,hn.1,zes hr hx,if_neg hn.2];rfl
    rw[show zaW (M.length:Int) 6 l'=.error (4,x.pos) by unfold zaW;rw[hr];simp only;rw[if_pos ⟨by omega,hx,hn.2⟩]]at X;clear hx hn;go_wp2_with (first | (go_at_call 46;refine G.out.mono ?_;rintro e w2 ⟨E,rfl⟩) | (go_at_call 130;refine (X.out _ E).mono ?_;rintro e w3 ⟨U,rfl⟩;unfold fltE) | fail);exact ⟨rfl,PPost.err HT.out ((MK.out.trans (MkO.of_below E)).trans U)⟩
   rw[show zaW (M.length:Int) 6 l'=.ok ((),l') by
    unfold zaW;rw[hr];simp only;rw[if_neg];rintro ⟨h1,h2,h3⟩;exact hn ⟨by omega,h3⟩]at X
   cases hv:zaX l' with
   | error f=>
    have HT:Hid (zbi zaX 6 l=.error f):=show _=_ from by
     rw[PL.out]
     cases n with
     | zero=>
      have h0:pkW x=0:=Classical.byContradiction fun h=>hn ⟨rfl,h⟩;rw[zes hr hx,if_pos h0];rw[zjy hr h0]at hv;injection hv with hv;rw[hv];rfl
     | succ n=>
      rw[zg9 hr hx hv];rfl
    rw[hv]at Z;clear hx hn;go_wp2_with (first | (go_at_call 46;refine G.out.mono ?_;rintro e w2 ⟨E,rfl⟩) | (go_at_call 130;refine (X.out _ E).mono ?_;rintro e w3 ⟨U,rfl,ah⟩) | (go_at_call 138;refine (Z.out _ ah).mono ?_;rintro e w4 ⟨I,rfl⟩;unfold fltE) | fail);exact ⟨rfl,PPost.err HT.out (((MK.out.trans (MkO.of_below E)).trans U).trans I)⟩
   | ok p=>
    obtain ⟨v,l1⟩:=p;rw[hv]at Z;obtain ⟨n,rfl⟩:∃ n',n=n'+1:=by
     cases n with
     | zero=>
      have h0:pkW x=0:=Classical.byContradiction fun h=>hn ⟨rfl,h⟩;rw[zjy hr h0]at hv
      cases hv
     | succ n=>exact ⟨n,rfl⟩
    have aq:=hidX (PL.out.trans (zhQ (M:=M) hr hx hv));clear hx hn hv;go_wp2_with (first | (go_at_call 46;refine G.out.mono ?_;rintro e w2 ⟨E,rfl⟩) | (go_at_call 130;refine (X.out _ E).mono ?_;rintro e w3 ⟨U,rfl,ah⟩) | (go_at_call 138;refine (Z.out _ ah).mono ?_;rintro e w4 ⟨I,O,ag⟩;replace O:e=.returned (.agg #[.int .i64 v.kind,.int .i64 v.op,.string v.var,.int .i64 v.val.kind,.int .i64 v.val.num,.string v.val.sym]):=O;subst O;have M4:=hidX (((MK.out.trans (MkO.of_below E)).trans U).trans I);have al:=hidX (zbq (zbq (zao OW.out E) U ae) I ae);have au:=M4.out.rest.size;have af:=zHA w4) | (at_builtin;refine zag (by rfl) (.tmp 13) (.tmp 16) 76 (by rfl) w.heap.size 95 _ 6 64 Tryz.underlying76 ziP (by rfl) (by omega) _ M.length _ (by rfl) (zao al.out (af.out _)) (some ⟨_,0,none⟩) 1 1 (by rfl) (tmC v) (by rfl) (fun e=>by cases e) (zas _ _ _ _ (by simp)) (zca v) (by unfold maxLen;omega) (by omega) (by simp;omega) ?_;intro a3 c3 w5 ar aj ax) | fail);have ab:∀ k,(Value.slice la M.length lc).ownBlock=some k->w.heap.size<=k:=fun k hk=>(al.out.lt k hk).1;have M5:=hidX ((M4.out.trans (MkO.of_below (af.out _))).grown aj.out ab);have P5:=hidX ((ag.below (af.out _)).keep ((Below.refl _ _).grown aj.out (by simp;omega) (fun k hk=>by have:=ab k hk;omega)));go_roundw
    case rel=>exact ⟨a3,c3,n,M ++ [v],l1,by simp;omega,by simp,by simpa using ar.out,P5.out,M5.out,aq.out⟩
    case measure=>(simp[za6];omega)
def ptP(x:Pt)(v:Value):List Value:=[.bool x.neg,.string x.cls,v]
theorem zef(x:Pt)(a:Option Addr)(n c:Nat):∀ v∈ptP x (.slice a n c),v.oneCell'=true:=by
 intro v hv;simp[ptP]at hv;rcases hv with rfl | rfl | rfl <;> rfl
theorem ze1:(Tryz.prog.info? 78).map (·.size)=some 3:=by kernel_rfl
def Rpt(B:Nat)(x:Pt)(e:Ending)(w':World):Prop:=∃ la lc,e=.returned (.agg (ptP x (.slice la x.terms.length lc)).toArray)/\w'.ownsRow B 95 6 (.slice la x.terms.length lc) x.terms.length (x.terms.flatMap tmC)
theorem zju(w:World)(pb:Nat)(src:Bs)(a:Option Addr)(c:Nat)(l:List Wd)(R:List Value)(h:PSt w pb src a c l R):Calls Tryz.prog 94 #[.pointer (some ⟨pb,0,none⟩)] w (PPost w pb src a c R (Rpt w.heap.size) (pPat l)):=by
 have ay:=wfield2;have aA:∀ (fn:Fn) (first cap:Array Value) (w:World),(Instr.makeFunc fn first cap).run Tryz.prog w=.ok (.func fn first cap) w:=fun _ _ _ _=>rfl;have HP:=hidX h;have az:=h.lt;clear h;go_enter Tryz.func94,Tryz.ntmps94;go_upto_region 1 with fail
 refine zaf ?_;intro w1 ap ak;have af:=hidX (zbt w1 pb src a c l R 97 (HP.out.below ap));have M1:=hidX (MkO.of_below ap:MkO (some pb) w w1);have ax:w.heap.size<w1.heap.size:=zab ak;have au:=hidX ak;clear ap ak
 cases hr:zai 97 l with
 | error f=>
  have HT:Hid (pPat l=.error f):=show _=_ from by unfold pPat;rw[hr];rfl
  rw[hr]at af;go_wp2_with (first | (go_at_call 85;refine af.out.mono ?_;rintro e w2 ⟨ab,rfl⟩;unfold fltE) | fail);exact ⟨rfl,PPost.err HT.out (M1.out.trans ab)⟩
 | ok p=>
  obtain ⟨x,l1⟩:=p;rw[hr]at af;go_upto_region 2 with (first | (go_at_call 85;refine af.out.mono ?_;rintro e w2 ⟨ab,ag,aw⟩;replace ag:e=.returned (pwA x):=ag;subst ag;unfold pwA) | fail);have O:=zbB (mkS (ptW x)) notT;rw[zbX]at O;have s2:=ab.rest.size;have M2:=hidX (M1.out.trans ab);have P2:=hidX aw;have ar:=hidX ((ab.block w.heap.size ax (fun e=>by injection e;omega)).trans au.out);clear ab aw af au M1;by_cases hk:ptW x=notT
  ·have HT:Hid (pPat l=andP (za3 l1) fun c l2=>andP (zbi zaX 6 l2) fun ts l3=>.ok (⟨true,mkS c,ts⟩,l3)):=show _=_ from by unfold pPat;rw[hr,zbc,if_pos hk]
   rw[decide_eq_true hk]at O;replace O:((mkS (ptW x)).toList==[110,111,116])=true:=O;clear hk hr;have ad:=hidX (zjz w2 pb src a c l1 R P2.out)
   cases hc:za3 l1 with
   | error f=>
    have G:Hid (pPat l=.error f):=show _=_ from by rw[HT.out,hc];rfl
    rw[hc]at ad;go_wp2_with (first | (go_at_call 81;refine ad.out.mono ?_;rintro e w3 ⟨Z,rfl⟩;unfold fltE) | fail);exact ⟨rfl,PPost.err G.out (M2.out.trans Z)⟩
   | ok q=>
    obtain ⟨t,l2⟩:=q;rw[hc]at ad;have I:=hidX (fun u (hu:PSt u pb src a c l2 R)=>zfB u pb src a c l2 R hu)
    cases hd:zbi zaX 6 l2 with
    | error f=>
     have G:Hid (pPat l=.error f):=show _=_ from by rw[HT.out,hc,zbc,hd];rfl
     rw[hd]at I;go_wp2_with (first | (go_at_call 81;refine ad.out.mono ?_;rintro e w3 ⟨Z,U,ao⟩;replace U:e=.returned (.string (mkS t)):=U;subst U) | (go_at_call 137;refine (I.out _ ao).mono ?_;rintro e w4 ⟨E,rfl⟩;unfold fltE) | fail);exact ⟨rfl,PPost.err G.out ((M2.out.trans Z).trans E)⟩
    | ok q=>
     obtain ⟨ts,l3⟩:=q;have G:Hid (pPat l=.ok (⟨true,mkS t,ts⟩,l3)):=show _=_ from by rw[HT.out,hc,zbc,hd];rfl
     rw[hd]at I;go_wp2_with (first | (go_at_call 81;refine ad.out.mono ?_;rintro e w3 ⟨Z,U,ao⟩;replace U:e=.returned (.string (mkS t)):=U;subst U) | (go_at_call 137;refine (I.out _ ao).mono ?_;rintro e w4 ⟨E,⟨la,lc,rfl,aj⟩,al⟩;have s3:=Z.rest.size;have s4:=E.rest.size;have ae:=((Z.trans E).block w.heap.size (by omega) (fun e=>by injection e;omega)).trans ar.out) | (refine zac (by rfl) 78 (.tmp 2) (.tmp 15) (by rfl) w.heap.size (ptP ⟨true,mkS t,ts⟩ (.slice la ts.length lc)) (by rfl) (by rfl) _ 78 ae (by rfl) ze1 (zef _ _ _ _) ?_;intro w5 aq X) | fail);have ah:=run_loadVar_mid (P:=Tryz.prog) w5 w.heap.size 0 78 (ptP ⟨true,mkS t,ts⟩ (.slice la ts.length lc)) _ (zal aq.out) Tryz.underlying78 rfl ze1;(try go_frame);exact bodyPost_ret (v:=.agg (ptP ⟨true,mkS t,ts⟩ (.slice la ts.length lc)).toArray) (by simp[results,Tryz.results94,asAddr,ah]) rfl (PPost.good G.out (((M2.out.trans Z).trans E).turn X.out (Nat.le_refl _)) ⟨la,lc,rfl,zaO (zbR aj X.out ae (by decide)) (by omega)⟩ (al.turned X.out (by omega)))
  have HT:Hid (pPat l=andP (zbi zaX 6 l1) fun ts l3=>.ok (⟨false,mkS (ptW x),ts⟩,l3)):=show _=_ from by unfold pPat;rw[hr,zbc,if_neg hk]
  rw[decide_eq_false hk]at O;replace O:((mkS (ptW x)).toList==[110,111,116])=false:=O;clear hk hr;have I:=hidX (zfB w2 pb src a c l1 R P2.out)
  cases hd:zbi zaX 6 l1 with
  | error f=>
   have G:Hid (pPat l=.error f):=show _=_ from by rw[HT.out,hd];rfl
   rw[hd]at I;go_wp2_with (first | (go_at_call 137;refine I.out.mono ?_;rintro e w4 ⟨E,rfl⟩;unfold fltE) | fail);exact ⟨rfl,PPost.err G.out (M2.out.trans E)⟩
  | ok q=>
   obtain ⟨ts,l3⟩:=q;have G:Hid (pPat l=.ok (⟨false,mkS (ptW x),ts⟩,l3)):=show _=_ from by rw[HT.out,hd];rfl
   rw[hd]at I;go_wp2_with (first | (go_at_call 137;refine I.out.mono ?_;rintro e w4 ⟨E,⟨la,lc,rfl,aj⟩,al⟩;have s4:=E.rest.size;have ae:=(E.block w.heap.size (by omega) (fun e=>by injection e;omega)).trans ar.out) | (refine zac (by rfl) 78 (.tmp 2) (.tmp 21) (by rfl) w.heap.size (ptP ⟨false,mkS (ptW x),ts⟩ (.slice la ts.length lc)) (by rfl) (by rfl) _ 78 ae (by rfl) ze1 (zef _ _ _ _) ?_;intro w5 aq X) | fail);have ah:=run_loadVar_mid (P:=Tryz.prog) w5 w.heap.size 0 78 (ptP ⟨false,mkS (ptW x),ts⟩ (.slice la ts.length lc)) _ (zal aq.out) Tryz.underlying78 rfl ze1;(try go_frame);exact bodyPost_ret (v:=.agg (ptP ⟨false,mkS (ptW x),ts⟩ (.slice la ts.length lc)).toArray) (by simp[results,Tryz.results94,asAddr,ah]) rfl (PPost.good G.out ((M2.out.trans E).turn X.out (Nat.le_refl _)) ⟨la,lc,rfl,zaO (zbR aj X.out ae (by decide)) (by omega)⟩ (al.turned X.out (by omega)))
end Go.Proofs.YtjjjagepnnbebaaGreatDoor
