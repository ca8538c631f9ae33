/-
  OUR OWN TEXT. Pt7, Pt8, Nr1, one behind the other.
-/
import Derived.Test.YtjjjagepnnbebaaGreatDoorKbe
import Derived.Test.YtjjjagepnnbebaaGreatDoorKbf
set_option maxHeartbeats 3200000
set_option maxRecDepth 100000
namespace Go.Proofs.YtjjjagepnnbebaaGreatDoor
open Go.RowKit
attribute [local go_sem ↓] Go.wp_at_zero Go.wp_at_succ
def acL(x:Ac)(v:Value):List Value:=[.int .i64 x.kind,.int .i64 x.k,.string x.cls,v]
theorem zcv(x:Ac)(a:Option Addr)(n c:Nat):∀ v∈acL x (.slice a n c),v.oneCell'=true:=by
 intro v hv;simp[acL]at hv;rcases hv with rfl | rfl | rfl | rfl <;> rfl
theorem zbU:(Tryz.prog.info? 73).map (·.size)=some 4:=by kernel_rfl
def Rac(B:Nat)(x:Ac)(e:Ending)(w':World):Prop:=∃ la lc,e=.returned (.agg (acL x (.slice la x.args.length lc)).toArray)/\w'.ownsRow B 3 1 (.slice la x.args.length lc) x.args.length (inC x.args)
theorem zla(w:World)(pb:Nat)(src:Bs)(a:Option Addr)(c:Nat)(l:List Wd)(R:List Value)(h:PSt w pb src a c l R):Calls Tryz.prog 84 #[.pointer (some ⟨pb,0,none⟩)] w (PPost w pb src a c R Rint (pRef l)):=by
 have ab:=wfield3;have I:=hidX (zbt w pb src a c l R 48 h);clear h;go_enter Tryz.func84,Tryz.ntmps84
 cases hr:zai 48 l with
 | error f=>
  have U:Hid (pRef l=.error f):=show _=_ from by unfold pRef;rw[hr];rfl
  rw[hr]at I;go_wp2_with (first | (go_at_call 85;refine I.out.mono ?_;rintro e w2 ⟨G,rfl⟩;unfold fltE) | fail);exact ⟨rfl,PPost.err U.out G⟩
 | ok p=>
  obtain ⟨x,l1⟩:=p;rw[hr]at I;obtain ⟨N,Z⟩:∃ N,N=x.num:=⟨_,rfl⟩
  have U:Hid (pRef l=.ok (zde N,l1)):=show _=_ from by unfold pRef;rw[hr,Z];rfl
  have HN:=hidX Z;clear Z hr;by_cases h1:N < -1000000
  ·have X:Hid (zde N=0):=show _=_ from by unfold zde;rw[if_pos (.inl h1)]
   go_wp2_with (first | (go_at_call 85;refine I.out.mono ?_;rintro e w2 ⟨G,E,O⟩;replace E:e=.returned (pwA x):=E;subst E;unfold pwA;rw[<- HN.out]) | fail);go_ret;exact PPost.good U.out G (by rw[X.out];rfl) O
  by_cases h2:1000000<N
  focus
   have X:Hid (zde N=0):=show _=_ from by unfold zde;rw[if_pos (.inr h2)]
  rotate_left
  focus
   have X:Hid (zde N=N):=show _=_ from by unfold zde;rw[if_neg (by omega)]
  rotate_left
  all_goals
   go_wp2_with (first | (go_at_call 85;refine I.out.mono ?_;rintro e w2 ⟨G,E,O⟩;replace E:e=.returned (pwA x):=E;subst E;unfold pwA;rw[<- HN.out]) | fail);go_ret;exact PPost.good U.out G (by rw[X.out];rfl) O
theorem zmD(w:World)(B pb:Nat)(src:Bs)(a:Option Addr)(c:Nat)(l:List Wd)(am cm rv lv:Value)(s:ES)(ea:Option Addr)(ec:Nat)(h:ExS w B pb src a c l am cm rv lv s ea ec)(hk:s.1.length<=s.2)(h60:s.2<=60):Calls Tryz.prog 39 #[.pointer (some ⟨pb,0,none⟩)] w (EPost w B pb src a c am cm rv lv (obE s ea ec) (Rac w.heap.size) (zd8 s l)):=by
 have al:∀ (fn:Fn) (first cap:Array Value) (w:World),(Instr.makeFunc fn first cap).run Tryz.prog w=.ok (.func fn first cap) w:=fun _ _ _ _=>rfl;have HP:=hidX h;have aj:=h.ps.lt;have ab:=hidX (fun k (hk:obE s ea ec=some k)=>(HP.out.ow.lt k hk).2);have HK:=hidX hk;have ak:=hidX h60;clear h hk h60;go_enter Tryz.func39,Tryz.ntmps39;go_upto_region 1 with fail
 refine zaf ?_;intro w1 U O;have P1:=hidX (HP.out.below U);have M1:=hidX (MkX.of (MkO.of_below U):MkX pb (obE s ea ec) w w1);have ad:w.heap.size<w1.heap.size:=zab O;have af:=hidX O;clear U O;have G:=hidX (zbt w1 pb src a c l _ 41 P1.out.ps)
 cases hr:zai 41 l with
 | error f=>
  have HT:Hid (zd8 s l=.error f):=show _=_ from by unfold zd8;rw[hr];rfl
  rw[hr]at G;go_wp2_with (first | (go_at_call 85;refine G.out.mono ?_;rintro e w2 ⟨E,rfl⟩;unfold fltE) | fail);exact ⟨rfl,EPost.err HT.out (M1.out.trans (MkX.of E) (.inl rfl))⟩
 | ok p=>
  obtain ⟨x,l1⟩:=p;have HT:Hid (zd8 s l=.ok ((⟨4,0,mkS [],[]⟩,s),l1)):=show _=_ from by unfold zd8;rw[hr];rfl
  rw[hr]at G;go_wp2_with (first | (go_at_call 85;refine G.out.mono ?_;rintro e w2 ⟨E,I,ag⟩;replace I:e=.returned (pwA x):=I;subst I;unfold pwA;have X:=(E.block w.heap.size ad (fun e=>by injection e;omega)).trans af.out) | (refine zac (by rfl) 73 (.tmp 2) (.tmp 5) (by rfl) w.heap.size (acL ⟨4,0,mkS [],[]⟩ (.slice none 0 0)) (by rfl) (by rfl) _ 73 X (by rfl) zbU (zcv _ _ _ _) ?_;intro w5 ah Z) | fail);have ae:=run_loadVar_mid (P:=Tryz.prog) w5 w.heap.size 0 73 (acL ⟨4,0,mkS [],[]⟩ (.slice none 0 0)) _ (zal ah.out) Tryz.underlying73 rfl zbU;(try go_frame);exact bodyPost_ret (v:=.agg (acL ⟨4,0,mkS [],[]⟩ (.slice none 0 0)).toArray) (by simp[results,Tryz.results39,asAddr,ae]) rfl (EPost.good HT.out ((M1.out.trans (MkX.of E) (.inl rfl)).turn Z.out (Nat.le_refl _)) ⟨none,0,rfl,World.ownsRow_nil _ _ _ _⟩ ((P1.out.mko E ag).turned Z.out (by omega) X (fun _ k hk=>by have:=ab.out k hk;omega)) (.inl rfl))
theorem zoj(w:World)(B pb:Nat)(src:Bs)(a:Option Addr)(c:Nat)(l:List Wd)(am cm rv lv:Value)(s:ES)(ea:Option Addr)(ec:Nat)(h:ExS w B pb src a c l am cm rv lv s ea ec)(hk:s.1.length<=s.2)(h60:s.2<=60):Calls Tryz.prog 37 #[.pointer (some ⟨pb,0,none⟩)] w (EPost w B pb src a c am cm rv lv (obE s ea ec) (Rac w.heap.size) (zds s l)):=by
 have ay:∀ (fn:Fn) (first cap:Array Value) (w:World),(Instr.makeFunc fn first cap).run Tryz.prog w=.ok (.func fn first cap) w:=fun _ _ _ _=>rfl;have HP:=hidX h;have aw:=h.ps.lt;have aj:=hidX (fun k (hk:obE s ea ec=some k)=>(HP.out.ow.lt k hk).2);have HK:=hidX hk;have ax:=hidX h60;clear h hk h60;go_enter Tryz.func37,Tryz.ntmps37;go_upto_region 1 with fail
 refine zaf ?_;intro w1 ad ab;have P1:=hidX (HP.out.below ad);have M1:=hidX (MkX.of (MkO.of_below ad):MkX pb (obE s ea ec) w w1);have ak:w.heap.size<w1.heap.size:=zab ab;have ar:=hidX ab;clear ad ab;have X:=hidX (zla w1 pb src a c l _ P1.out.ps)
 cases hr:pRef l with
 | error f=>
  have HT:Hid (zds s l=.error f):=show _=_ from by unfold zds;rw[hr];rfl
  rw[hr]at X;go_wp2_with (first | (go_at_call 84;refine X.out.mono ?_;rintro e w2 ⟨E,rfl⟩;unfold fltE) | fail);exact ⟨rfl,EPost.err HT.out (M1.out.trans (MkX.of E) (.inl rfl))⟩
 | ok p=>
  obtain ⟨K,l1⟩:=p;rw[hr]at X;go_upto_region 2 with (first | (go_at_call 84;refine X.out.mono ?_;rintro e w2 ⟨E,Z,ag⟩;replace Z:e=.returned (.int .i64 K):=Z;subst Z) | fail);refine zaf ?_;intro w3 O I;replace I:w3.heap[w2.heap.size]?=some (.cells (acL ⟨2,K,mkS [],[]⟩ (.slice none 0 0)).toArray 73 (0,0)):=I;have s2:=E.rest.size;have s3:w2.heap.size<w3.heap.size:=zab I;have P3:=hidX ((P1.out.mko E ag).below O);have M3:=hidX ((M1.out.trans (MkX.of E) (.inl rfl)).below O);have ap:=hidX ((O.block w.heap.size (by omega)).trans ((E.block w.heap.size ak (fun e=>by injection e;omega)).trans ar.out));have U:=hidX (zbt w3 pb src a c l1 _ 41 P3.out.ps);clear O E ag
  cases hs:zai 41 l1 with
  | error f=>
   have HT:Hid (zds s l=.error f):=show _=_ from by unfold zds;rw[hr,zbc,hs];rfl
   rw[hs]at U;go_wp2_with (first | (go_at_call 85;refine U.out.mono ?_;rintro e w4 ⟨G,rfl⟩;unfold fltE) | fail);exact ⟨rfl,EPost.err HT.out (M3.out.trans (MkX.of G) (.inl rfl))⟩
  | ok q=>
   obtain ⟨y,l2⟩:=q;have HT:Hid (zds s l=.ok ((⟨2,K,mkS [],[]⟩,s),l2)):=show _=_ from by unfold zds;rw[hr,zbc,hs];rfl
   rw[hs]at U;go_wp2_with (first | (go_at_call 85;refine U.out.mono ?_;rintro e w4 ⟨G,ae,aq⟩;replace ae:e=.returned (pwA y):=ae;subst ae;have s4:=G.rest.size;have ao:=(G.block w2.heap.size s3 (fun e=>by injection e;omega)).trans I;have ah:=(G.block w.heap.size (by omega) (fun e=>by injection e;omega)).trans ap.out) | (refine zam (by rfl) 73 (.tmp 3) (by rfl) w2.heap.size (acL ⟨2,K,mkS [],[]⟩ (.slice none 0 0)) (by rfl) 73 (0,0) ao _ Tryz.underlying73 rfl zbU ?_) | (refine zac (by rfl) 73 (.tmp 2) (.tmp 9) (by rfl) w.heap.size (acL ⟨2,K,mkS [],[]⟩ (.slice none 0 0)) (by rfl) (by rfl) _ 73 ah (by rfl) zbU (zcv _ _ _ _) ?_;intro w5 au af) | fail);have al:=run_loadVar_mid (P:=Tryz.prog) w5 w.heap.size 0 73 (acL ⟨2,K,mkS [],[]⟩ (.slice none 0 0)) _ (zal au.out) Tryz.underlying73 rfl zbU;(try go_frame);exact bodyPost_ret (v:=.agg (acL ⟨2,K,mkS [],[]⟩ (.slice none 0 0)).toArray) (by simp[results,Tryz.results37,asAddr,al]) rfl (EPost.good HT.out ((M3.out.trans (MkX.of G) (.inl rfl)).turn af.out (Nat.le_refl _)) ⟨none,0,rfl,World.ownsRow_nil _ _ _ _⟩ ((P3.out.mko G aq).turned af.out (by omega) ah (fun _ k hk=>by have:=aj.out k hk;omega)) (.inl rfl))
theorem zpG(w:World)(B pb:Nat)(src:Bs)(a:Option Addr)(c:Nat)(l:List Wd)(am cm rv lv:Value)(s:ES)(ea:Option Addr)(ec:Nat)(h:ExS w B pb src a c l am cm rv lv s ea ec)(hk:s.1.length<=s.2)(h60:s.2<=60):Calls Tryz.prog 38 #[.pointer (some ⟨pb,0,none⟩)] w (EPost w B pb src a c am cm rv lv (obE s ea ec) (Rac w.heap.size) (aMod s l)):=by
 have ay:∀ (fn:Fn) (first cap:Array Value) (w:World),(Instr.makeFunc fn first cap).run Tryz.prog w=.ok (.func fn first cap) w:=fun _ _ _ _=>rfl;have HP:=hidX h;have ax:=h.ps.lt;have af:=hidX (fun k (hk:obE s ea ec=some k)=>(HP.out.ow.lt k hk).2);have HK:=hidX hk;have ao:=hidX h60;clear h hk h60;go_enter Tryz.func38,Tryz.ntmps38;go_upto_region 1 with fail
 refine zaf ?_;intro w1 ae ab;have P1:=hidX (HP.out.below ae);have M1:=hidX (MkX.of (MkO.of_below ae):MkX pb (obE s ea ec) w w1);have aj:w.heap.size<w1.heap.size:=zab ab;have ar:=hidX ab;clear ae ab;have O:=hidX (zla w1 pb src a c l _ P1.out.ps)
 cases hr:pRef l with
 | error f=>
  have HT:Hid (aMod s l=.error f):=show _=_ from by unfold aMod;rw[hr];rfl
  rw[hr]at O;go_wp2_with (first | (go_at_call 84;refine O.out.mono ?_;rintro e w2 ⟨E,rfl⟩;unfold fltE) | fail);exact ⟨rfl,EPost.err HT.out (M1.out.trans (MkX.of E) (.inl rfl))⟩
 | ok p=>
  obtain ⟨K,l1⟩:=p;rw[hr]at O;have U:=hidX (fun u (hu:ExS u B pb src a c l1 am cm rv lv s ea ec)=>zgj u B pb src a c l1 am cm rv lv s ea ec hu HK.out ao.out)
  cases hs:zaB (zaw 20) 6 s l1 with
  | error f=>
   have HT:Hid (aMod s l=.error f):=show _=_ from by unfold aMod;rw[hr,zbc,hs];rfl
   rw[hs]at U;go_wp2_with (first | (go_at_call 84;refine O.out.mono ?_;rintro e w2 ⟨E,G,ad⟩;replace G:e=.returned (.int .i64 K):=G;subst G) | (go_at_call 82;refine (U.out _ (P1.out.mko E ad)).mono ?_;rintro e w4 ⟨I,rfl⟩;unfold fltE) | fail);exact ⟨rfl,EPost.err HT.out ((M1.out.trans (MkX.of E) (.inl rfl)).trans I (.inl rfl))⟩
  | ok q=>
   obtain ⟨⟨vs,s'⟩,l2⟩:=q;have HT:Hid (aMod s l=.ok ((⟨3,K,mkS [],vs⟩,s'),l2)):=show _=_ from by unfold aMod;rw[hr,zbc,hs];rfl
   rw[hs]at U;go_wp2_with (first | (go_at_call 84;refine O.out.mono ?_;rintro e w2 ⟨E,G,ad⟩;replace G:e=.returned (.int .i64 K):=G;subst G) | (go_at_call 82;refine (U.out _ (P1.out.mko E ad)).mono ?_;rintro e w4 ⟨I,⟨la,lc,rfl,ap⟩,aw,ah,ak,ag⟩;have s2:=E.rest.size;have s4:=I.rest.size;have X:=(I.block w.heap.size (by omega) (by omega) (fun e=>by have:=af.out _ e;omega)).trans ((E.block w.heap.size aj (fun e=>by injection e;omega)).trans ar.out)) | (refine zac (by rfl) 73 (.tmp 2) (.tmp 9) (by rfl) w.heap.size (acL ⟨3,K,mkS [],vs⟩ (.slice la vs.length lc)) (by rfl) (by rfl) _ 73 X (by rfl) zbU (zcv _ _ _ _) ?_;intro w5 au Z) | fail);have aq:∀ k,obE s' aw ah=some k->k≠w.heap.size:=fun k hk=>by
    rcases ag with e | e
    ·have:=af.out k (e ▸ hk);omega
    have:=e k hk;omega
   have al:=run_loadVar_mid (P:=Tryz.prog) w5 w.heap.size 0 73 (acL ⟨3,K,mkS [],vs⟩ (.slice la vs.length lc)) _ (zal au.out) Tryz.underlying73 rfl zbU;(try go_frame);exact bodyPost_ret (v:=.agg (acL ⟨3,K,mkS [],vs⟩ (.slice la vs.length lc)).toArray) (by simp[results,Tryz.results38,asAddr,al]) rfl (EPost.good HT.out (((M1.out.trans (MkX.of E) (.inl rfl)).trans I (.inl rfl)).turn Z.out (Nat.le_refl _)) ⟨la,lc,rfl,zaO (zbR ap Z.out X (by decide)) (by omega)⟩ (ak.turned Z.out (by omega) X (fun _=>aq)) (ag.imp id fun h g hg=>by have:=h g hg;omega))
theorem zp0(w:World)(B pb:Nat)(src:Bs)(a:Option Addr)(c:Nat)(l:List Wd)(am cm rv lv:Value)(s:ES)(ea:Option Addr)(ec:Nat)(h:ExS w B pb src a c l am cm rv lv s ea ec)(hk:s.1.length<=s.2)(h60:s.2<=60):Calls Tryz.prog 36 #[.pointer (some ⟨pb,0,none⟩)] w (EPost w B pb src a c am cm rv lv (obE s ea ec) (Rac w.heap.size) (aAdd s l)):=by
 have ay:∀ (fn:Fn) (first cap:Array Value) (w:World),(Instr.makeFunc fn first cap).run Tryz.prog w=.ok (.func fn first cap) w:=fun _ _ _ _=>rfl;have HP:=hidX h;have ax:=h.ps.lt;have af:=hidX (fun k (hk:obE s ea ec=some k)=>(HP.out.ow.lt k hk).2);have HK:=hidX hk;have ao:=hidX h60;clear h hk h60;go_enter Tryz.func36,Tryz.ntmps36;go_upto_region 1 with fail
 refine zaf ?_;intro w1 ae ab;have P1:=hidX (HP.out.below ae);have M1:=hidX (MkX.of (MkO.of_below ae):MkX pb (obE s ea ec) w w1);have aj:w.heap.size<w1.heap.size:=zab ab;have ar:=hidX ab;clear ae ab;have O:=hidX (zjz w1 pb src a c l _ P1.out.ps)
 cases hr:za3 l with
 | error f=>
  have HT:Hid (aAdd s l=.error f):=show _=_ from by unfold aAdd;rw[hr];rfl
  rw[hr]at O;go_wp2_with (first | (go_at_call 81;refine O.out.mono ?_;rintro e w2 ⟨E,rfl⟩;unfold fltE) | fail);exact ⟨rfl,EPost.err HT.out (M1.out.trans (MkX.of E) (.inl rfl))⟩
 | ok p=>
  obtain ⟨t,l1⟩:=p;rw[hr]at O;have U:=hidX (fun u (hu:ExS u B pb src a c l1 am cm rv lv s ea ec)=>zgj u B pb src a c l1 am cm rv lv s ea ec hu HK.out ao.out)
  cases hs:zaB (zaw 20) 6 s l1 with
  | error f=>
   have HT:Hid (aAdd s l=.error f):=show _=_ from by unfold aAdd;rw[hr,zbc,hs];rfl
   rw[hs]at U;go_wp2_with (first | (go_at_call 81;refine O.out.mono ?_;rintro e w2 ⟨E,G,ad⟩;replace G:e=.returned (.string (mkS t)):=G;subst G) | (go_at_call 82;refine (U.out _ (P1.out.mko E ad)).mono ?_;rintro e w4 ⟨I,rfl⟩;unfold fltE) | fail);exact ⟨rfl,EPost.err HT.out ((M1.out.trans (MkX.of E) (.inl rfl)).trans I (.inl rfl))⟩
  | ok q=>
   obtain ⟨⟨vs,s'⟩,l2⟩:=q;have HT:Hid (aAdd s l=.ok ((⟨1,0,mkS t,vs⟩,s'),l2)):=show _=_ from by unfold aAdd;rw[hr,zbc,hs];rfl
   rw[hs]at U;go_wp2_with (first | (go_at_call 81;refine O.out.mono ?_;rintro e w2 ⟨E,G,ad⟩;replace G:e=.returned (.string (mkS t)):=G;subst G) | (go_at_call 82;refine (U.out _ (P1.out.mko E ad)).mono ?_;rintro e w4 ⟨I,⟨la,lc,rfl,ap⟩,aw,ah,ak,ag⟩;have s2:=E.rest.size;have s4:=I.rest.size;have X:=(I.block w.heap.size (by omega) (by omega) (fun e=>by have:=af.out _ e;omega)).trans ((E.block w.heap.size aj (fun e=>by injection e;omega)).trans ar.out)) | (refine zac (by rfl) 73 (.tmp 2) (.tmp 9) (by rfl) w.heap.size (acL ⟨1,0,mkS t,vs⟩ (.slice la vs.length lc)) (by rfl) (by rfl) _ 73 X (by rfl) zbU (zcv _ _ _ _) ?_;intro w5 au Z) | fail);have aq:∀ k,obE s' aw ah=some k->k≠w.heap.size:=fun k hk=>by
    rcases ag with e | e
    ·have:=af.out k (e ▸ hk);omega
    have:=e k hk;omega
   have al:=run_loadVar_mid (P:=Tryz.prog) w5 w.heap.size 0 73 (acL ⟨1,0,mkS t,vs⟩ (.slice la vs.length lc)) _ (zal au.out) Tryz.underlying73 rfl zbU;(try go_frame);exact bodyPost_ret (v:=.agg (acL ⟨1,0,mkS t,vs⟩ (.slice la vs.length lc)).toArray) (by simp[results,Tryz.results36,asAddr,al]) rfl (EPost.good HT.out (((M1.out.trans (MkX.of E) (.inl rfl)).trans I (.inl rfl)).turn Z.out (Nat.le_refl _)) ⟨la,lc,rfl,zaO (zbR ap Z.out X (by decide)) (by omega)⟩ (ak.turned Z.out (by omega) X (fun _=>aq)) (ag.imp id fun h g hg=>by have:=h g hg;omega))
end Go.Proofs.YtjjjagepnnbebaaGreatDoor
namespace Go.Proofs.YtjjjagepnnbebaaGreatDoor
open Go.RowKit Go.Maps
attribute [local go_sem ↓] Go.wp_at_zero Go.wp_at_succ
theorem zqd(w:World):(zeroValue 197).run Tryz.prog w=.ok .nilFunc w:=by kernel_rfl
theorem zku(w:World)(B pb mb:Nat)(src:Bs)(a:Option Addr)(c:Nat)(l:List Wd)(cm rv lv:Value)(s:ES)(ea:Option Addr)(ec:Nat)(h:ExS w B pb src a c l (.map (some mb)) cm rv lv s ea ec)(hk:s.1.length<=s.2)(h60:s.2<=60)(hM:zdX w pb mb actF)(aC:pb<mb):Calls Tryz.prog 95 #[.pointer (some ⟨pb,0,none⟩)] w (EPost w B pb src a c (.map (some mb)) cm rv lv (obE s ea ec) (Rac w.heap.size) (pAct s l)):=by
 have HP:=hidX h;have HM:=hidX hM;have aK:=h.ps.lt;have ad:=hidX (fun k (hk:obE s ea ec=some k)=>(HP.out.ow.lt k hk).2);have HK:=hidX hk;have au:=hidX h60;clear h hM hk h60;go_enter Tryz.func95,Tryz.ntmps95;go_upto_region 1 with fail
 refine zaf ?_;intro w1 aA aB;have P1:=hidX (HP.out.below aA);have M1:=hidX (MkO.of_below aA:MkO (some pb) w w1);have HF:=hidX (zbt w1 pb src a c l _ 97 P1.out.ps);have aI:w.heap.size<w1.heap.size:=zab aB;have aD:=hidX aB;clear aA aB
 cases hr:zai 97 l with
 | error f=>
  have HT:Hid (pAct s l=.error f):=show _=_ from by unfold pAct;rw[hr];rfl
  rw[hr]at HF;go_wp2_with (first | (go_at_call 85;refine HF.out.mono ?_;rintro e w2 ⟨af,rfl⟩;unfold fltE) | fail);exact ⟨rfl,EPost.err HT.out (MkX.of (M1.out.trans af))⟩
 | ok p=>
  obtain ⟨x,l1⟩:=p;rw[hr]at HF;have aF:=HP.out.ps.text (ziT hr).1;have ar:Hid (pAct s l=if ptW x=zd6 then zd8 s l1 else if ptW x=modT then aMod s l1 else if ptW x=zdV then zds s l1 else if ptW x=addT then aAdd s l1 else .error (3,x.pos)):=show _=_ from by unfold pAct;rw[hr];rfl
  go_upto_region 2 with (first | (go_at_call 85;refine HF.out.mono ?_;rintro e w2 ⟨af,ay,ax⟩;replace ay:e=.returned (pwA x):=ay;subst ay;unfold pwA) | fail);refine zaf ?_;intro w3 aq ap;obtain ⟨L,X,aE,aH,ap,y0⟩:=zfk ap;have az:=hidX ((M1.out.trans af).trans (MkO.of_below aq));have M3:=hidX (MkX.of az.out.drew:MkX pb (obE s ea ec) w w3.drew);have P3:=hidX ((((P1.out.mko af ax).below aq)).below ((Below.refl _ _).drew));have y2:=(zfK aE ap).1;have aJ:=af.rest.size;have aw:=(aq.block w.heap.size (by omega)).trans ((af.block w.heap.size aI (fun e=>by injection e;omega)).trans aD.out);have aL:w2.heap.size<w3.heap.size:=zab ap;have c3:=(ax.below aq).cell (j:=0) rfl;have U:=znx (t:=52) Tryz.underlying52 zqd (HM.out.mko az.out (Nat.ne_of_lt aC)) aF;have G:=znx (w:=w3.drew) (t:=52) Tryz.underlying52 zqd (HM.out.mko az.out.drew (Nat.ne_of_lt aC)) aF;clear aq af ax HF M1 y0 hr aD;by_cases k1:ptW x=zd6
  ·have Z:actF (ptW x)=some 39:=by unfold actF;rw[if_pos k1]
   have HC:Hid (pAct s l=zd8 s l1):=show _=_ from by rw[ar.out];rw[if_pos k1]
   rw[Z]at U G;unfold mth at U G;simp only[Option.isSome_some]at U G;have HS:=hidX (zmD w3.drew B pb src a c l1 (.map (some mb)) cm rv lv s ea ec P3.out HK.out au.out);clear Z k1;go_wp2_with fail
   go_region
   cases hs:zd8 s l1 with
   | error f=>
    rw[hs]at HS HC;go_wp2_with (first | (go_at_call 39;refine HS.out.mono ?_;rintro e w4 ⟨E,rfl⟩;unfold fltE) | fail);exact ⟨rfl,EPost.err HC.out (M3.out.trans E (.inl rfl))⟩
   | ok q=>
    obtain ⟨⟨y,s'⟩,l2⟩:=q;rw[hs]at HS HC;go_wp2_with (first | (go_at_call 39;refine HS.out.mono ?_;rintro e w4 ⟨E,⟨la,lc,rfl,ah⟩,al,ae,ak,ab⟩;have s4:=E.rest.size;simp at s4;have O:=(E.block w.heap.size (by simp;omega) (by omega) (fun e=>by have:=ad.out _ e;omega)).trans aw) | (refine zac (by rfl) 73 (.tmp 2) (.tmp 24) (by rfl) w.heap.size (acL y (.slice la y.args.length lc)) (by rfl) (by rfl) _ 73 O (by rfl) zbU (zcv _ _ _ _) ?_;intro w5 aj I) | fail);have ao:∀ k,obE s' al ae=some k->k≠w.heap.size:=fun k hk=>by
     rcases ab with e | e
     ·have:=ad.out k (e ▸ hk);omega
     have:=e k hk;simp at this;omega
    have ag:=run_loadVar_mid (P:=Tryz.prog) w5 w.heap.size 0 73 (acL y (.slice la y.args.length lc)) _ (zal aj.out) Tryz.underlying73 rfl zbU;(try go_frame);exact bodyPost_ret (v:=.agg (acL y (.slice la y.args.length lc)).toArray) (by simp[results,Tryz.results95,asAddr,ag]) rfl (EPost.good HC.out ((M3.out.trans E (.inl rfl)).turn I.out (Nat.le_refl _)) ⟨la,lc,rfl,zaO (zbR ah I.out O (by decide)) (by simp;omega)⟩ (ak.turned I.out (by omega) O (fun _=>ao)) (ab.imp id fun h g hg=>by have:=h g hg;simp at this;omega))
  by_cases k2:ptW x=modT
  ·have Z:actF (ptW x)=some 38:=by unfold actF;rw[if_neg k1,if_pos k2]
   have HC:Hid (pAct s l=aMod s l1):=show _=_ from by rw[ar.out];rw[if_neg k1,if_pos k2]
   rw[Z]at U G;unfold mth at U G;simp only[Option.isSome_some]at U G;have HS:=hidX (zpG w3.drew B pb src a c l1 (.map (some mb)) cm rv lv s ea ec P3.out HK.out au.out);clear Z k1 k2;go_wp2_with fail
   go_region
   cases hs:aMod s l1 with
   | error f=>
    rw[hs]at HS HC;go_wp2_with (first | (go_at_call 38;refine HS.out.mono ?_;rintro e w4 ⟨E,rfl⟩;unfold fltE) | fail);exact ⟨rfl,EPost.err HC.out (M3.out.trans E (.inl rfl))⟩
   | ok q=>
    obtain ⟨⟨y,s'⟩,l2⟩:=q;rw[hs]at HS HC;go_wp2_with (first | (go_at_call 38;refine HS.out.mono ?_;rintro e w4 ⟨E,⟨la,lc,rfl,ah⟩,al,ae,ak,ab⟩;have s4:=E.rest.size;simp at s4;have O:=(E.block w.heap.size (by simp;omega) (by omega) (fun e=>by have:=ad.out _ e;omega)).trans aw) | (refine zac (by rfl) 73 (.tmp 2) (.tmp 24) (by rfl) w.heap.size (acL y (.slice la y.args.length lc)) (by rfl) (by rfl) _ 73 O (by rfl) zbU (zcv _ _ _ _) ?_;intro w5 aj I) | fail);have ao:∀ k,obE s' al ae=some k->k≠w.heap.size:=fun k hk=>by
     rcases ab with e | e
     ·have:=ad.out k (e ▸ hk);omega
     have:=e k hk;simp at this;omega
    have ag:=run_loadVar_mid (P:=Tryz.prog) w5 w.heap.size 0 73 (acL y (.slice la y.args.length lc)) _ (zal aj.out) Tryz.underlying73 rfl zbU;(try go_frame);exact bodyPost_ret (v:=.agg (acL y (.slice la y.args.length lc)).toArray) (by simp[results,Tryz.results95,asAddr,ag]) rfl (EPost.good HC.out ((M3.out.trans E (.inl rfl)).turn I.out (Nat.le_refl _)) ⟨la,lc,rfl,zaO (zbR ah I.out O (by decide)) (by simp;omega)⟩ (ak.turned I.out (by omega) O (fun _=>ao)) (ab.imp id fun h g hg=>by have:=h g hg;simp at this;omega))
  by_cases k3:ptW x=zdV
  ·have Z:actF (ptW x)=some 37:=by unfold actF;rw[if_neg k1,if_neg k2,if_pos k3]
   have HC:Hid (pAct s l=zds s l1):=show _=_ from by rw[ar.out];rw[if_neg k1,if_neg k2,if_pos k3]
   rw[Z]at U G;unfold mth at U G;simp only[Option.isSome_some]at U G;have HS:=hidX (zoj w3.drew B pb src a c l1 (.map (some mb)) cm rv lv s ea ec P3.out HK.out au.out);clear Z k1 k2 k3;go_wp2_with fail
   go_region
   cases hs:zds s l1 with
   | error f=>
    rw[hs]at HS HC;go_wp2_with (first | (go_at_call 37;refine HS.out.mono ?_;rintro e w4 ⟨E,rfl⟩;unfold fltE) | fail);exact ⟨rfl,EPost.err HC.out (M3.out.trans E (.inl rfl))⟩
   | ok q=>
    obtain ⟨⟨y,s'⟩,l2⟩:=q;rw[hs]at HS HC;go_wp2_with (first | (go_at_call 37;refine HS.out.mono ?_;rintro e w4 ⟨E,⟨la,lc,rfl,ah⟩,al,ae,ak,ab⟩;have s4:=E.rest.size;simp at s4;have O:=(E.block w.heap.size (by simp;omega) (by omega) (fun e=>by have:=ad.out _ e;omega)).trans aw) | (refine zac (by rfl) 73 (.tmp 2) (.tmp 24) (by rfl) w.heap.size (acL y (.slice la y.args.length lc)) (by rfl) (by rfl) _ 73 O (by rfl) zbU (zcv _ _ _ _) ?_;intro w5 aj I) | fail);have ao:∀ k,obE s' al ae=some k->k≠w.heap.size:=fun k hk=>by
     rcases ab with e | e
     ·have:=ad.out k (e ▸ hk);omega
     have:=e k hk;simp at this;omega
    have ag:=run_loadVar_mid (P:=Tryz.prog) w5 w.heap.size 0 73 (acL y (.slice la y.args.length lc)) _ (zal aj.out) Tryz.underlying73 rfl zbU;(try go_frame);exact bodyPost_ret (v:=.agg (acL y (.slice la y.args.length lc)).toArray) (by simp[results,Tryz.results95,asAddr,ag]) rfl (EPost.good HC.out ((M3.out.trans E (.inl rfl)).turn I.out (Nat.le_refl _)) ⟨la,lc,rfl,zaO (zbR ah I.out O (by decide)) (by simp;omega)⟩ (ak.turned I.out (by omega) O (fun _=>ao)) (ab.imp id fun h g hg=>by have:=h g hg;simp at this;omega))
  by_cases k4:ptW x=addT
  ·have Z:actF (ptW x)=some 36:=by unfold actF;rw[if_neg k1,if_neg k2,if_neg k3,if_pos k4]
   have HC:Hid (pAct s l=aAdd s l1):=show _=_ from by rw[ar.out];rw[if_neg k1,if_neg k2,if_neg k3,if_pos k4]
   rw[Z]at U G;unfold mth at U G;simp only[Option.isSome_some]at U G;have HS:=hidX (zp0 w3.drew B pb src a c l1 (.map (some mb)) cm rv lv s ea ec P3.out HK.out au.out);clear Z k1 k2 k3 k4;go_wp2_with fail
   go_region
   cases hs:aAdd s l1 with
   | error f=>
    rw[hs]at HS HC;go_wp2_with (first | (go_at_call 36;refine HS.out.mono ?_;rintro e w4 ⟨E,rfl⟩;unfold fltE) | fail);exact ⟨rfl,EPost.err HC.out (M3.out.trans E (.inl rfl))⟩
   | ok q=>
    obtain ⟨⟨y,s'⟩,l2⟩:=q;rw[hs]at HS HC;go_wp2_with (first | (go_at_call 36;refine HS.out.mono ?_;rintro e w4 ⟨E,⟨la,lc,rfl,ah⟩,al,ae,ak,ab⟩;have s4:=E.rest.size;simp at s4;have O:=(E.block w.heap.size (by simp;omega) (by omega) (fun e=>by have:=ad.out _ e;omega)).trans aw) | (refine zac (by rfl) 73 (.tmp 2) (.tmp 24) (by rfl) w.heap.size (acL y (.slice la y.args.length lc)) (by rfl) (by rfl) _ 73 O (by rfl) zbU (zcv _ _ _ _) ?_;intro w5 aj I) | fail);have ao:∀ k,obE s' al ae=some k->k≠w.heap.size:=fun k hk=>by
     rcases ab with e | e
     ·have:=ad.out k (e ▸ hk);omega
     have:=e k hk;simp at this;omega
    have ag:=run_loadVar_mid (P:=Tryz.prog) w5 w.heap.size 0 73 (acL y (.slice la y.args.length lc)) _ (zal aj.out) Tryz.underlying73 rfl zbU;(try go_frame);exact bodyPost_ret (v:=.agg (acL y (.slice la y.args.length lc)).toArray) (by simp[results,Tryz.results95,asAddr,ag]) rfl (EPost.good HC.out ((M3.out.trans E (.inl rfl)).turn I.out (Nat.le_refl _)) ⟨la,lc,rfl,zaO (zbR ah I.out O (by decide)) (by simp;omega)⟩ (ak.turned I.out (by omega) O (fun _=>ao)) (ab.imp id fun h g hg=>by have:=h g hg;simp at this;omega))
  have Z:actF (ptW x)=none:=by unfold actF;rw[if_neg k1,if_neg k2,if_neg k3,if_neg k4]
  have HC:Hid (pAct s l=.error (3,x.pos)):=show _=_ from by rw[ar.out];rw[if_neg k1,if_neg k2,if_neg k3,if_neg k4]
  rw[Z]at U G;simp only[Option.isSome_none]at U G;clear Z k1 k2 k3 k4;go_wp2_with fail
  go_region;go_wp2_with (first | (refine zam (by rfl) 131 (.tmp 3) (by rfl) w2.heap.size L (by rfl) 131 (0,0) ap _ Tryz.underlying131 rfl aH.1 ?_) | (go_at_call 93;refine (zdH aE 3 _).mono ?_;rintro e w4 ⟨rfl,aG⟩) | fail);exact ⟨rfl,EPost.err HC.out (M3.out.below aG)⟩
end Go.Proofs.YtjjjagepnnbebaaGreatDoor
namespace Go.Proofs.YtjjjagepnnbebaaGreatDoor
open Go.RowKit
structure NK (α:Type) where
 cell:α->Value->List Value
 len:α->Nat
 inner:α->List Value
 t:TypeId
 m:Nat
 e:TypeId
 k:Nat
structure NRow {α:Type} (K:NK α) (w:World) (B:Nat) (a:Option Addr) (c:Nat) (M:List (α × Value)):Prop where
 row:w.ownsRow B K.t K.m (.slice a M.length c) M.length (M.flatMap fun x=>K.cell x.1 x.2)
 all:∀ x∈M,∃ la lc,x.2=.slice la (K.len x.1) lc/\w.ownsRow B K.e K.k x.2 (K.len x.1) (K.inner x.1)
 pair:M.Pairwise fun x y=>Apart x.2 y.2
variable {α : Type} {K : NK α} {w w' : World} {B : Nat} {a : Option Addr} {c : Nat} {M : List (α × Value)}
theorem NRow.nil(K:NK α)(w:World)(B:Nat):NRow K w B none 0 []:=⟨World.ownsRow_nil _ _ _ _,fun x hx=>by simp at hx,List.Pairwise.nil⟩
theorem NRow.keep(h:NRow K w B a c M)(hr:∀ g,(Value.slice a M.length c).ownBlock=some g->w'.heap[g]?=w.heap[g]?)(hv:∀ x∈M,∀ g,x.2.ownBlock=some g->w'.heap[g]?=w.heap[g]?):NRow K w' B a c M:=
 ⟨zar h.row hr,fun x hx=>by
  obtain ⟨la,lc,e1,e2⟩:=h.all x hx
  exact ⟨la,lc,e1,zar e2 (hv x hx)⟩,h.pair⟩
theorem NRow.rlt(h:NRow K w B a c M):∀ g,(Value.slice a M.length c).ownBlock=some g->B<=g/\g<w.heap.size:=fun g hg=>h.row.lt g hg
theorem NRow.vlt(h:NRow K w B a c M):∀ x∈M,∀ g,x.2.ownBlock=some g->B<=g/\g<w.heap.size:=fun x hx g hg=>by
 obtain ⟨la,lc,_,e2⟩:=h.all x hx;exact e2.lt g hg
theorem NRow.rty(h:NRow K w B a c M):∀ g,(Value.slice a M.length c).ownBlock=some g->∃ cs,w.heap[g]?=some (.cells cs K.t (0,0)):=fun _ hg=>zaA h.row hg
theorem NRow.vty(h:NRow K w B a c M):∀ x∈M,∀ g,x.2.ownBlock=some g->∃ cs,w.heap[g]?=some (.cells cs K.e (0,0)):=fun x hx g hg=>by
 obtain ⟨la,lc,_,e2⟩:=h.all x hx;exact zaA e2 hg
theorem NRow.below(h:NRow K w B a c M)(hb:Below w.heap.size w w'):NRow K w' B a c M:=h.keep (fun g hg=>hb.block g (h.rlt g hg).2) (fun x hx g hg=>hb.block g (h.vlt x hx g hg).2)
theorem NRow.mko{pb:Nat}(h:NRow K w B a c M)(hm:MkO (some pb) w w')(hp:pb<B):NRow K w' B a c M:=
 h.keep (fun g hg=>hm.block g (h.rlt g hg).2 (fun e=>by injection e with e;have:=(h.rlt g hg).1;omega)) (fun x hx g hg=>hm.block g (h.vlt x hx g hg).2 (fun e=>by injection e with e;have:=(h.vlt x hx g hg).1;omega))
theorem zg5{g:Nat}{I c2:Array Value}{G t2:TypeId}(h1:w.heap[g]?=some (.cells I G (0,0)))(h2:w.heap[g]?=some (.cells c2 t2 (0,0)))(E:G≠t2):False:=by
 rw[h1]at h2;injection h2 with h2;injection h2 with _ h2 _;exact E h2
theorem NRow.mkx{pb:Nat}{ob:Option Nat}(h:NRow K w B a c M)(hm:MkX pb ob w w')(hp:pb<B)(ho:∀ g,ob=some g->∃ cs,w.heap[g]?=some (.cells cs 97 (0,0)))(h1:K.t≠97)(h2:K.e≠97):NRow K w' B a c M:=
 h.keep (fun g hg=>hm.block g (h.rlt g hg).2 (fun e=>by have:=(h.rlt g hg).1;omega) (fun e=>by
  obtain ⟨E,e1⟩:=h.rty g hg
  obtain ⟨c2,e2⟩:=ho g e
  exact zg5 e1 e2 h1)) (fun x hx g hg=>hm.block g (h.vlt x hx g hg).2 (fun e=>by have:=(h.vlt x hx g hg).1;omega) (fun e=>by
  obtain ⟨E,e1⟩:=h.vty x hx g hg
  obtain ⟨c2,e2⟩:=ho g e
  exact zg5 e1 e2 h2))
theorem NRow.turned{b:Nat}{cs:Array Value}{t:TypeId}(h:NRow K w B a c M)(ht:Turned w w' b)(hb:w.heap[b]?=some (.cells cs t (0,0)))(h1:K.t≠t)(h2:K.e≠t):NRow K w' B a c M:=
 h.keep (fun g hg=>ht.block g (fun e=>by
  obtain ⟨E,e1⟩:=h.rty g hg
  subst e
  exact zg5 e1 hb h1)) (fun x hx g hg=>ht.block g (fun e=>by
  obtain ⟨E,e1⟩:=h.vty x hx g hg
  subst e
  exact zg5 e1 hb h2))
theorem NRow.grown{row:Option Nat}{t:TypeId}(h:NRow K w B a c M)(hg:w.grownBy w' row)(ht:∀ k,row=some k->∃ cs,w.heap[k]?=some (.cells cs t (0,0)))(h1:K.t≠t)(h2:K.e≠t):NRow K w' B a c M:=
 h.keep (fun g E=>hg.block g (h.rlt g E).2 (fun e=>by
  obtain ⟨G,e1⟩:=h.rty g E
  obtain ⟨c2,e2⟩:=ht g e.symm
  exact zg5 e1 e2 h1)) (fun x hx g E=>hg.block g (h.vlt x hx g E).2 (fun e=>by
  obtain ⟨G,e1⟩:=h.vty x hx g E
  obtain ⟨c2,e2⟩:=ht g e.symm
  exact zg5 e1 e2 h2))
theorem NRow.base{E:Nat}(h:NRow K w B a c M)(hb:E<=B):NRow K w E a c M:=⟨zaO h.row hb,fun x hx=>by
 obtain ⟨la,lc,e1,e2⟩:=h.all x hx;exact ⟨la,lc,e1,zaO e2 hb⟩,h.pair⟩
theorem NRow.more{w0 w1:World}{C:Nat}{x:α}{v:Value}{a':Option Addr}{c':Nat}(h0:NRow K w0 B a c M)(h:NRow K w B a c M)(hx:w1.ownsRow C K.e K.k v (K.len x) (K.inner x))(hC:w0.heap.size<=C)(G:B<=C)(hv:∃ la lc,v=.slice la (K.len x) lc)(U:w.ownsRow C K.e K.k v (K.len x) (K.inner x))
  (hg:w.grownBy w' (Value.slice a M.length c).ownBlock) (ho:w'.ownsRow B K.t K.m (.slice a' (M.length+1) c') (M.length+1) ((M.flatMap fun x=>K.cell x.1 x.2) ++ K.cell x v)) (E:K.t≠K.e):NRow K w' B a' c' (M ++ [(x,v)]):=by
 obtain ⟨la,lc,hv⟩:=hv;refine ⟨by simpa using ho,fun y hy=>?_,?_⟩
 ·rcases List.mem_append.1 hy with hy | hy
  ·obtain ⟨O,Z,e1,e2⟩:=h.all y hy;exact ⟨O,Z,e1,zbF e2 hg (fun k hk=>zaA h.row hk) E⟩
  simp at hy;subst hy;exact ⟨la,lc,hv,zaO (zbF U hg (fun k hk=>zaA h.row hk) E) G⟩
 refine List.pairwise_append.2 ⟨h.pair,by simp,fun y hy z hz g I X=>?_⟩;simp at hz;subst hz;have h3:=(h0.vlt y hy g I).2;have h4:=(hx.lt g X).1;omega
def ptK:NK Pt:=⟨ptP,fun x=>x.terms.length,fun x=>x.terms.flatMap tmC,78,3,95,6⟩
def acK:NK Ac:=⟨acL,fun x=>x.args.length,fun x=>inC x.args,73,4,3,1⟩
theorem zfD{k:Int}{rd:List Wd->Px α}{n:Nat}{l:List Wd}{f:Flt}(h:zaj l=.error f):za1 k rd n l=.error f:=by
 cases n <;> simp[za1,h]
theorem zdz{k:Int}{rd:List Wd->Px α}{n:Nat}{l r:List Wd}{x:Wd}(h:zaj l=.ok (x,r))(hx:pkW x=k):za1 k rd n l=.ok ([],l):=by
 cases n <;> simp[za1,h,hx]
theorem zic{k:Int}{rd:List Wd->Px α}{n m:Nat}{l r:List Wd}{x:Wd}{f:Flt}(h:zaj l=.ok (x,r))(hx:pkW x≠k)(hm:n<=m)(ho:zeE ((m - n:Nat):Int) m l=.error f):za1 k rd n l=.error f:=by
 unfold zeE at ho;rw[h]at ho;simp only at ho
 cases n with
 | zero=>
  by_cases E:pkW x=40
  ·rw[if_pos ⟨E,by simp⟩]at ho;injection ho with ho;simp[za1,h,E,<- ho];exact fun e=>absurd (E.trans e) hx
  ·rw[if_neg (fun e=>E e.1),zel h E]at ho;injection ho with ho;simp[za1,h,hx,E,<- ho]
 | succ n=>
  rw[if_neg (fun e=>by have:=e.2;omega)]at ho;simp[za1,h,hx,ho]
theorem zfV{n m:Nat}{l r l1:List Wd}{x y:Wd}(h:zaj l=.ok (x,r))(hm:n<=m)(ho:zeE ((m - n:Nat):Int) m l=.ok (y,l1)):∃ q,n=q+1/\zai 40 l=.ok (y,l1):=by
 unfold zeE at ho;rw[h]at ho;simp only at ho
 cases n with
 | zero=>
  by_cases E:pkW x=40
  ·rw[if_pos ⟨E,by simp⟩]at ho
   cases ho
  ·rw[if_neg (fun e=>E e.1),zel h E]at ho
   cases ho
 | succ n=>
  rw[if_neg (fun e=>by have:=e.2;omega)]at ho;exact ⟨n,rfl,ho⟩
theorem zfq{k:Int}{rd:List Wd->Px α}{n:Nat}{l r l1:List Wd}{x y:Wd}{f:Flt}(h:zaj l=.ok (x,r))(hx:pkW x≠k)(ht:zai 40 l=.ok (y,l1))(E:rd l1=.error f):za1 k rd (n+1) l=.error f:=by
 simp[za1,h,hx,ht,E]
theorem zcZ{k:Int}{rd:List Wd->Px α}{n:Nat}{l r l1 l2:List Wd}{x y:Wd}{v:α}{M:List α}(h:zaj l=.ok (x,r))(hx:pkW x≠k)(ht:zai 40 l=.ok (y,l1))(E:rd l1=.ok (v,l2)):preL M (za1 k rd (n+1) l)=preL (M ++ [v]) (za1 k rd n l2):=by
 simp only[za1,h,hx,ht,E,if_false]
 cases za1 k rd n l2 with
 | error f=>rfl
 | ok p=>
  obtain ⟨vs,l3⟩:=p;simp[preL]
theorem zhL{σ:Type}{k:Int}{rd:σ->List Wd->Px (α × σ)}{n:Nat}{s:σ}{l:List Wd}{f:Flt}(h:zaj l=.error f):zaK k rd n s l=.error f:=by
 cases n <;> simp[zaK,h]
theorem zfJ{σ:Type}{k:Int}{rd:σ->List Wd->Px (α × σ)}{n:Nat}{s:σ}{l r:List Wd}{x:Wd}(h:zaj l=.ok (x,r))(hx:pkW x=k):zaK k rd n s l=.ok (([],s),l):=by
 cases n <;> simp[zaK,h,hx]
theorem zkB{σ:Type}{k:Int}{rd:σ->List Wd->Px (α × σ)}{n m:Nat}{s:σ}{l r:List Wd}{x:Wd}{f:Flt}(h:zaj l=.ok (x,r))(hx:pkW x≠k)(hm:n<=m)(ho:zeE ((m - n:Nat):Int) m l=.error f):zaK k rd n s l=.error f:=by
 unfold zeE at ho;rw[h]at ho;simp only at ho
 cases n with
 | zero=>
  by_cases E:pkW x=40
  ·rw[if_pos ⟨E,by simp⟩]at ho;injection ho with ho;simp[zaK,h,E,<- ho];exact fun e=>absurd (E.trans e) hx
  ·rw[if_neg (fun e=>E e.1),zel h E]at ho;injection ho with ho;simp[zaK,h,hx,E,<- ho]
 | succ n=>
  rw[if_neg (fun e=>by have:=e.2;omega)]at ho;simp[zaK,h,hx,ho]
theorem zh5{σ:Type}{k:Int}{rd:σ->List Wd->Px (α × σ)}{n:Nat}{s:σ}{l r l1:List Wd}{x y:Wd}{f:Flt}(h:zaj l=.ok (x,r))(hx:pkW x≠k)(ht:zai 40 l=.ok (y,l1))(E:rd s l1=.error f):zaK k rd (n+1) s l=.error f:=by
 simp[zaK,h,hx,ht,E]
theorem zeQ{σ:Type}{k:Int}{rd:σ->List Wd->Px (α × σ)}{n:Nat}{s s1:σ}{l r l1 l2:List Wd}{x y:Wd}{v:α}{M:List α}(h:zaj l=.ok (x,r))(hx:pkW x≠k)(ht:zai 40 l=.ok (y,l1))(E:rd s l1=.ok ((v,s1),l2)):preE M (zaK k rd (n+1) s l)=preE (M ++ [v]) (zaK k rd n s1 l2):=by
 simp only[zaK,h,hx,ht,E,if_false]
 cases zaK k rd n s1 l2 with
 | error f=>rfl
 | ok p=>
  obtain ⟨⟨vs,s2⟩,l3⟩:=p;simp[preE]
end Go.Proofs.YtjjjagepnnbebaaGreatDoor
