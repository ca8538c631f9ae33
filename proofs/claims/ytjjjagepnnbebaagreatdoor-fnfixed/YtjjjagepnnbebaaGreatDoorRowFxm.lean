/-
  OUR OWN TEXT. THE STATEMENT FnFixedCardSaid: for all bytes that can be read the law returns true, and they (and the listed variable) read behind the call as before it; tied by the given tie.
-/
import Derived.Test.YtjjjagepnnbebaaGreatDoorKaq
import Derived.Test.YtjjjagepnnbebaaGreatDoorKbt
import Derived.Test.YtjjjagepnnbebaaGreatDoorCards
import Derived.Test.YtjjjagepnnbebaaGreatDoorTie
import Derived.WalkKit
import Derived.ProofKit
import Derived.OpenShut
import Derived.ShutString
import Derived.ChangeOld
import Derived.Below
import Derived.OpenVars
import Derived.MakeChecks
import Derived.Deep.DeepHandedRow
import Derived.Lib.LaidTab
import Derived.LaidHandle
import Derived.Lay
set_option maxRecDepth 100000
namespace Go.Proofs.YtjjjagepnnbebaaGreatDoor
open Go.ChangeShapes Go.WideShapes Go.ChangeAt Go.RowKit Go.Joins
open Go.ChangeMaps (open_string shut_string)
theorem ziD{H:Type}{enc:TypeId × Value->H}{P:Program}{w:World}{base:Nat}{sp:Nat->Bool}{held:Bool}{E:Nat}{t e:TypeId}{n:Nat}{cs:List Value}{zs:List Bs}{p:List MemPlace}
  (ht:P.underlying t=some (.array n e)) (he:P.underlying e=some .string) (X:P.cellsOf e=1) (O:P.cellsOf t=n)
  (h:DataW.trod enc P w base sp held E t cs=some (.agg (zs.map fun z=>.lit (.string z)),p)):cs=zs.map fun z=>Value.string (mkS z):=by
 cases E with
 | zero=>simp[DataW.trod]at h
 | succ E=>
  simp only[DataW.trod,ht,X,O,Nat.mul_one]at h;split at h
  ·rename_i hl;obtain ⟨xs,hm,hx⟩:=Option.map_eq_some_iff.1 h;have G:xs.map (·.1)=zs.map fun z=>(DataW.lit (.string z):DataW H):=by
    have:=congrArg Prod.fst hx;simpa using this
   have ab:xs.length=n:=by simpa using Lib.mapM_length hm
   have Z:zs.length=n:=by
    have:=congrArg List.length G;simp at this;omega
   apply List.ext_getElem?;intro i;by_cases hi:i<n
   ·obtain ⟨b,hb,hf⟩:=Lib.mapM_at hm i i (by simp[hi]);obtain ⟨s,hc,rfl,_⟩:=DataW.trod_string he hf;have h1:cs[i]?=some (.string s):=by
     have:=congrArg (·[0]?) hc;simpa[List.getElem?_take,List.getElem?_drop] using this
    have h2:(xs.map (·.1))[i]?=some (DataW.lit (.string s.data.toList):DataW H):=by simp[hb]
    rw[G]at h2;simp only[List.getElem?_map,Option.map_eq_some_iff,DataW.lit.injEq,Lit.string.injEq]at h2;obtain ⟨z',U,I⟩:=h2;have hs:s=mkS z':=by rw[I];exact (zb2 s).symm
    simp[h1,U,hs]
   ·rw[List.getElem?_eq_none (by omega),List.getElem?_eq_none (by simp;omega)]
  cases h
theorem zho{H:Type}{enc:TypeId × Value->H}{P:Program}{w:World}{base:Nat}{sp:Nat->Bool}{E:Nat}{t:TypeId}{G:Array (String × Nat)}{cs:List Value}{n:String}{d:DataW H}{p:List MemPlace}
  (ht:P.underlying t=some (.interface G)) (h:DataW.trod enc P w base sp false E t cs=some (.iface n d,p)):∃ u v,cs=[.iface u v]:=by
 cases E with
 | zero=>simp[DataW.trod]at h
 | succ E=>
  simp only[DataW.trod,ht]at h;split at h <;> first | (exact ⟨_,_,rfl⟩) | (simp_all) | (cases h)
theorem zqy : Tryz.prog.globalNamed "loop.example/s01311/impl.testWords" = some 1 := by kernel_rfl
theorem zsq:(Tryz.prog.globals[1]?).map (·.type)=some 177:=by kernel_rfl
theorem zrA:(Tryz.prog.globals[2]?).map (·.type)=some 207:=by kernel_rfl
theorem zrn:Tryz.prog.cellsOf 207=20:=by kernel_rfl
theorem u64Cells:Tryz.prog.cellsOf 172=1:=by kernel_rfl
theorem zr2:(Rows.laid_internal_strconv_uint64pow10:DataW Unit)=Lib.tabData .u64 Lib.pow10Tab:=by kernel_rfl
theorem zrG:(Tryz.prog.globals[7]?).map (·.type)=some 85:=by kernel_rfl
theorem zqs : Tryz.prog.globalNamed "errors.errorType" = some 0 := by kernel_rfl
theorem zrm:Tryz.prog.cellsOf 177=7:=by kernel_rfl
theorem zrY:(Rows.laid_loop_example_s01311_impl_testWords:DataW Unit)=.agg (([] :: opTx).map fun z=>.lit (.string z)):=by kernel_rfl
theorem zqw : (Tryz.prog.cutTypes.find? (·.1 == "internal/reflectlite.rtype")).map (·.2) = some 183 := by kernel_rfl
theorem zsc:Tryz.prog.types.size=377 - 100:=by kernel_rfl
theorem zsF:((List.range (377 - 100)).filter fun t=>Tryz.prog.rowNamed t [101,114,114,111,114])=[85]:=by kernel_rfl
theorem zoE:typeHandle Tryz.prog 85=.pointer (some ⟨8,85,none⟩):=by kernel_rfl
def zrO : List (String × DataW Unit) := [("math/bits.deBruijn32tab", Rows.laid_math_bits_deBruijn32tab), ("math/bits.deBruijn64tab", Rows.laid_math_bits_deBruijn64tab), ("internal/strconv.uint64pow10", Rows.laid_internal_strconv_uint64pow10), ("strconv.ErrRange", Rows.laid_strconv_ErrRange), ("strconv.ErrSyntax", Rows.laid_strconv_ErrSyntax), ("loop.example/s01311/impl.testWords", Rows.laid_loop_example_s01311_impl_testWords)]
def zsz : List (String × DataW Unit) := [("errors.errorType", Rows.laid_errors_errorType)]
theorem zjt{W:World}(h:laidMetH Tryz.prog Rows.fnFixedRow.laid W):zjn W:=by
 have h':laidMet Tryz.prog zrO W∧handlesMet Tryz.prog zsz W:=h;obtain ⟨hp,hh⟩:=h';obtain ⟨ps,⟨g0,t0,ar,f0,p0,q0,_,_,_,_,⟨g1,t1,ap,f1,p1,q1,_,_,_,_,⟨g2,t2,aq,f2,p2,q2,ak,Z,af,X,⟨g3,t3,ag,f3,p3,q3,G,ab,I,ah,⟨g4,t4,ao,f4,p4,q4,_,_,_,_,⟨g5,t5,al,f5,p5,q5,E,ae,ad,O,_,_⟩,_⟩,_⟩,_⟩,_⟩,_⟩,_,_⟩:=hp;have U : Lib.TabIs Tryz.prog W "internal/strconv.uint64pow10" .u64 Lib.pow10Tab := by
  obtain rfl:=Option.some.inj (zjW.symm.trans ak);obtain rfl:=Option.some.inj (zrA.symm.trans Z);rw[zr2]at X;unfold Lib.TabIs;rw[af,<- Lib.cells_of_tab Tryz.underlying207 Tryz.underlying172 u64Cells zrn X]
 have hE:ziQ W/\7<W.heap.size:=by
  obtain rfl:=Option.some.inj (zgx.symm.trans G);obtain rfl:=Option.some.inj (zrG.symm.trans ab);obtain ⟨u,v,e⟩:=zho Tryz.underlying85 ah;have e':ag=#[.iface u v]:=Array.ext' e;subst e';exact ⟨⟨u,v,I⟩,World.block_lt_of_cell? W ⟨7,0,none⟩ ((World.var?_cell G I 0).trans rfl)⟩
 have hT:zcu W 1 1:=by
  obtain rfl:=Option.some.inj (zqy.symm.trans E);obtain rfl:=Option.some.inj (zsq.symm.trans ae);rw[zrY]at O;have aj:=ziD Tryz.underlying177 Tryz.underlying9 zso zrm O;intro k hk;have:=World.var?_cell E ad (1+k);rw[this,<- Array.getElem?_toList,aj,Nat.add_comm 1 k];rcases (show k=0∨k=1∨k=2∨k=3∨k=4∨k=5 by omega) with rfl | rfl | rfl | rfl | rfl | rfl <;> rfl
 refine ⟨⟨hE.1,hT,World.block_lt_of_cell? W ⟨1,_,none⟩ (hT 0 (by omega)),hE.2⟩,?_,U,hT⟩
 ·obtain ⟨name,u,ty,e1,e2,e3,e4,e5⟩:=hh _ (List.mem_singleton.2 rfl);have en:name=[101,114,114,111,114]:=(Option.some.inj e1).symm;subst en;obtain rfl:=Option.some.inj (zqw.symm.trans e2);have hm:ty∈(List.range (377 - 100)).filter fun t=>Tryz.prog.rowNamed t [101,114,114,111,114]:=List.mem_filter.2 ⟨List.mem_range.2 (by rw[<- zsc];exact e3),e4⟩;rw[zsF]at hm;obtain rfl:=List.mem_singleton.1 hm;rw[zoE]at e5;have:=World.var?_cell zqs e5 0;simpa[ErrT] using this
theorem zkP(H:Type)(enc:TypeId × Value->H)(W:World)(base:Nat)(args:Array Value)(ds gs:List (DataW H))(before:List MemPlace)
  (E:∀ (j:Nat) t v,Tryz.f4.params[j]?=some t->args[j]?=some v->Value.okWide Tryz.prog W .any base t v)
  (hW:DataW.Whole enc Tryz.prog Tryz.f4.params.toList Rows.fnFixedSpec.vars false W args.toList ds gs before) (hL:laidMetH Tryz.prog Rows.fnFixedRow.laid W) :
  Calls Tryz.prog 4 args W fun e W'=>∃ v,e=.returned v/\Rows.fnFixedSpec.post enc Tryz.prog Tryz.f4 false true false false W args v W':=by
 have G:=E;have ad:=hW;obtain ⟨p,q,O,hV,rfl,al,af⟩:=hW;have hA:DataW.TrodAll enc Tryz.prog W 0 (fun _=>true) true Tryz.f4.params.toList args.toList ds p:=O;rw[Tryz.params4]at hA G;obtain ⟨v0,aj,d0,ak,p0,q0,Z,rfl,rfl,h0,r0⟩:=trodAll_cons hA;obtain ⟨rfl,rfl,rfl⟩:=trodAll_nil r0;obtain rfl:args=#[v0]:=by cases args;simp_all
 obtain ⟨gn,gt,ah,U,gd,gp,rfl,_⟩:=trodVars_one hV;have k0:=h0;have ab:∀ x∈p0,x.block<W.heap.size:=by obtain ⟨m,hm⟩:=k0;exact DataW.trod_lt m _ _ _ hm
 obtain ⟨sa,sn,sc,rfl⟩:=okWide_slice Tryz.underlying22 (G 0 22 v0 rfl rfl);obtain ⟨m2,X⟩:=h0;obtain ⟨ag,ao,l,e4,ae,_⟩:=zqM X;simp only[Value.cells,List.cons.injEq,and_true,Value.slice.injEq]at e4;obtain ⟨rfl,rfl,rfl⟩:=e4;clear O E;refine (zsr l _ _ W ae (zjt hL)).mono fun e W' ⟨he,I⟩=>?_;subst he;exact ⟨_,rfl,_,_,_,[],_,_,ad,trodAll_mk1 (shut_bool Tryz.underlying4 _),(trodAll_cons_mk (Below.trod zog (by kernel_rfl) (of_decide_eq_true (by kernel_rfl)) k0 I ab) trodAll_mk0),Below.trodVars zog I (by kernel_rfl) hV,I.frame _,fun h=>by cases h⟩
def zrB(g:Nat)(cs:Array Value)(h:Array Obj):Array Obj:=h.modify g fun
 | .cells _ t frozen=>.cells cs t frozen
 | o=>o
set_option maxHeartbeats 6400000 in
theorem znp(os:Os)(G:os.Started)(H:Type)(enc:TypeId × Value->H)(F:Stop.Interp) :
  ReturnsInHanded {} Tryz.checked os 4 .any ((OpenSpec.ofChange Rows.fnFixedSpec).preRow enc Tryz.prog Tryz.f4 Rows.fnFixedRow.domain false Rows.fnFixedRow.laid) (((OpenSpec.ofChange Rows.fnFixedSpec).at F).post enc Tryz.prog Tryz.f4 false true false false):=by
 obtain ⟨I,E⟩:∃ I:World,I=World.layVars Tryz.prog { World.holding Tryz.prog os ⟨#[],#[],[]⟩ with heap:=zrB 0 #[.iface 183 (.agg #[.pointer (some ⟨8,85,none⟩)])] (World.holding Tryz.prog os ⟨#[],#[],[]⟩).heap } zrO:=⟨_,rfl⟩
 have hx:DataW.whole enc Tryz.prog (I.forCall (fun _ _=>0) ⟨#[],#[.slice none 0 0],[]⟩).memory Tryz.f4.params.toList Rows.fnFixedSpec.vars false #[Value.slice none 0 0].toList 8=some ([.nil],[Rows.laid_loop_example_s01311_impl_testWords],MemPlace.row ⟨1,0,none⟩ 7):=by
  subst E;kernel_rfl
 have U:laidMetH Tryz.prog Rows.fnFixedRow.laid (I.forCall (fun _ _=>0) ⟨#[],#[.slice none 0 0],[]⟩).memory:=by
  subst E;exact laidMetH_of_parts (laidMet_of_run' 8 (by kernel_rfl) (by kernel_rfl)) (by kernel_rfl)
 refine returnsInHanded_of_row (C:=Tryz.checked) (s:=OpenSpec.ofChange Rows.fnFixedSpec) ownK G (by kernel_rfl) Tryz.func4
  (witness_row_at (enc:=enc) (C:=Tryz.checked) false I #[.slice none 0 0] (by subst E;rfl) (by subst E;kernel_rfl) (by subst E;kernel_rfl) (by subst E;kernel_rfl)
   (OpenSpec.preRow_of_cond 8 hx (by kernel_rfl) (fun k hk=>by cases hk) (by subst E;kernel_rfl) U)) ?_
 intro W base args ds X before O Z _ _ _ U _ _;exact zkP H enc W base args ds X before O Z U
theorem zkn:Rows.FnFixedSaid:=
 OpenClaim.holds_of_cond 4 Tryz.f4 rfl rfl rfl rfl rfl rfl rfl ⟨rfl,rfl,rfl,rfl,rfl⟩ rfl rfl rfl rfl rfl (by kernel_rfl) Tryz.func4 (by kernel_rfl)
  (of_decide_eq_true (by kernel_rfl)) (by unfold Func.isWrapper;first | (rw[if_pos (by decide +kernel)];kernel_rfl) | (rw[if_neg (by decide +kernel)];exact ⟨rfl,rfl⟩))
  (fun os E H enc _ F=>by rw[OpenClaim.pre_eq_preRow];exact znp os E H enc F)
theorem zoI (f : FuncId) (E : Func) (hf : Tryz.pinned.checked.prog.funcNamed "loop.example/s01311/laws.FnFixed" = some f) (G : Tryz.pinned.checked.prog.funcs[f]? = some E) :
  true=Tryz.pinned.checked.prog.looks []/\∀ (j:Nat) t,E.params[j]?=some t->Tryz.pinned.checked.prog.wantsStandIn t=false:=by
 obtain rfl : f = 4 := Option.some.inj ((show Tryz.prog.funcNamed "loop.example/s01311/laws.FnFixed" = some 4 by kernel_rfl).symm.trans hf) |>.symm
 obtain rfl:E=Tryz.f4:=(Option.some.inj (Tryz.func4.symm.trans G)).symm;refine ⟨by kernel_rfl,fun j t ht=>?_⟩;rw[Tryz.params4]at ht;obtain rfl:t=22:=by simpa using Array.mem_of_getElem? ht
 exact (show Tryz.prog.wantsStandIn 22=false by kernel_rfl)
theorem fnFixed_holds:Rows.FnFixedCardSaid:=
 Claim7.holds_tied_plain_at .later [] _ _ _ _ zkn (fun _ h=>by cases h) (by kernel_rfl) (fun _ h=>by cases h) fnFixed_row_tie rfl ⟨rfl,rfl⟩ (by kernel_rfl) rfl zoI (by kernel_rfl)
#print axioms fnFixed_holds
end Go.Proofs.YtjjjagepnnbebaaGreatDoor
