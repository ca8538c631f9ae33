import Derived.Below
import Derived.WalkKit
import Derived.WalkSpells
import Derived.WalkLawsBesides
import Derived.Laws.IdiomCopy
import Derived.Deep.RegionHeld3
import Derived.Deep.DrawnRows
import Derived.Deep.Slices
import Derived.Deep.Strs
import Derived.Lib.SmallJoins
import Derived.Deep.MidRow
import Derived.Laws.CopyOwn
import Derived.Deep.RegionLaw
import Derived.Maps.AppendAt
import Derived.Laws.OwnMore
import Derived.BigQuiet
import Derived.Lib.Bytealg
import Derived.Deep.DeepCutAuto
import Derived.Laws.Strings
import Derived.LaidEql
import Derived.Maps.RangeRun
import Derived.MapKept
import Derived.Laws.BytesArg
import Derived.Maps.RangeWalk
import Derived.Maps.OwnSet
import Derived.DeepKeys4
import Derived.RangeFuncFrom
import Derived.RangeFuncCalls
import Derived.OwnWalkIn
import Derived.OrdersHeld
import Derived.Lib.Small
import Derived.RangeFuncNested
import Derived.Deep.Cut
import Derived.Deep.CutBlock
import Derived.StringKeys
import Derived.Maps.Own
import Derived.Maps.Views
import Derived.Maps.Keyed
import Derived.Shelf.SlMaps.Clone
import Derived.RangeFuncBound
import Derived.RangeFuncLeaves
import Derived.Shelf.Abstract
import Derived.TacticsInMore
import Derived.Deep.RegionWith
import Derived.Deep.QuietTactic
import Derived.Sort.OwnSortedInts
import Derived.ProofKit
import Derived.OpenShut
import Derived.ShutString
import Derived.ChangeOld
import Derived.Test.YtikojfajahnhgaaGreatRows
set_option linter.all false
namespace Go.Proofs.YtikojfajahnhgaaGreat
open Go.RowKit
abbrev Ca:=Calls Tryz.prog
def Cb{p:Prop}(h:p):Hid p:=h
end Go.Proofs.YtikojfajahnhgaaGreat
def Eq.c:=@Eq.trans
def Iff.c:=@Iff.trans
def List.Perm.c:=@List.Perm.trans
def Go.RowKit.Below.c:=@Go.RowKit.Below.trans
def Go.RowKit.Below.j:=@Go.RowKit.Below.mono
def Go.Calls.j:=@Go.Calls.mono
def Go.CallsIn.j:=@Go.CallsIn.mono
def Go.RoundIn.j:=@Go.RoundIn.mono
def Ne.y:=@Ne.symm
def Or.y:=@Or.symm
def List.Perm.y:=@List.Perm.symm
def Eq.y:=@Eq.symm
def Iff.y:=@Iff.symm
namespace Go.Proofs.YtikojfajahnhgaaGreat
open Go Go.RowKit
def yd:=@List.mem_of_getElem?
def ye:=@List.getElem?_eq_some_iff
def yf:=@List.mem_filter
def yg:=@Nat.lt_of_lt_of_le
def yh:=@Nat.le_trans
def yi:=@Bool.and_eq_true
def yj:=@Array.getElem?_eq_some_iff
def yk:=@Nat.zero_le
def ym:=@List.getElem?_toArray
def yn:=@List.mem_append
def yo:=@List.setIfInBounds_toArray
def yp:=@List.mem_singleton
def yq:=@List.map_cons
def yr:=@List.getElem?_append_left
def yt:=@List.length_map
def yu:=@Nat.le_refl
def yv:=@List.getElem?_cons_zero
def yw:=@List.getElem?_cons_succ
def yx:=@List.getElem?_append_right
def yy:=@List.drop_eq_nil_of_le
def yz:=@List.mem_map
def yA:=@List.getElem?_map
def yB:=@List.set_cons_zero
def yC:=@List.set_cons_succ
def yD:=@List.filter_cons_of_pos
def yE:=@Below.heap_setCell
def yF:=@List.map_append
def yG:=@List.mem_cons
def yH:=@List.getElem?_eq_getElem
def yI:=@List.length_cons
def yJ:=@List.filter_cons_of_neg
def yK:=@List.nodup_append
def yL:=@List.flatMap_cons
def yM:=@List.filter_append
def yN:=@World.ownsRow_nil
def yO:=@World.block_lt_of_cell?
def yP:=@List.length_append
def yQ:=@List.append_nil
def yR:=@World.cell?_of_block
def yS:=@Below.heap_alloc
def yT:=@List.take_of_length_le
def yU:=@List.mem_map_of_mem
def yV:=@List.take_length
def yW:=@List.append_assoc
def yX:=@Below.refl
def yY:=@List.nil_append
def yZ:=@List.take_add_one
def y8:=@List.length_filter_le
def y9:=@List.nodup_cons
def Ya:=@NoPanic.normal
def Yb:=@List.cons_append
def Yc:=@Nat.zero_add
def Yd:=@Option.map_eq_some_iff
def Ye:=@List.map_congr_left
def Yf:=@Int.eq_ofNat_of_zero_le
def Yg:=@IntKind.wrap_i64
def Yh:=@Array.getElem?_toList
def Yi:=@List.getElem?_eq_none
def Yj:=@AllReadyH.cons
def Yk:=@List.filter_eq_self
def Yl:=@Nat.mul_le_mul_right
def Ym:=@World.putObj_heap_other
def Yn:=@Bool.false_eq_true
def Yo:=@List.mem_flatMap
def Yp:=@List.filter_nil
def Yq:=@List.filter_filter
def Yr:=@List.flatMap_append
def Yt:=@List.length_take
def Yu:=@List.cons.injEq
def Yv:=@List.map_map
def Yw:=@List.eq_nil_of_length_eq_zero
def Yx:=@AllReadyH.nil
def Yy:=@List.all_eq_true
def Yz:=@List.length_nil
def YA:=@List.ext_getElem?
def YB:=@List.map_nil
def YC:=@List.getElem?_take
def YD:=@List.mem_append_right
def YE:=@Option.getD_some
def YF:=@List.not_mem_nil
def YG:=@Int.toNat_natCast
def YH:=@List.mem_cons_of_mem
def YI:=@List.getElem_mem
def YJ:=@Bool.true_and
def YK:=@List.filter_congr
def YL:=@List.length_eq_zero_iff
def YM:=@List.mem_of_mem_take
def YN:=@List.getElem?_set_ne
def YO:=@Prod.mk.injEq
def YP:=@List.all_cons
def YQ:=@List.flatMap_nil
def YR:=@List.filter_sublist
def YS:=@List.take_succ_cons
def YT:=@Array.getElem?_modify
def YU:=@List.sum_cons
def YV:=@List.filter_map
def YW:=@List.getElem?_of_mem
def YX:=@Value.slice.injEq
def YY:=@Option.some.injEq
def YZ:=@List.Perm.refl
def Y0:=@List.take_zero
def Y1:=@List.nodup_nil
def Y2:=@List.getElem?_set_self
def Y3:=@Calls.quiet_of_same
def Y4:=@Option.map_some
def Y5:=@Array.getElem?_setIfInBounds_ne
def Y6:=@List.mem_cons_self
def Y7:=@Array.getElem?_setIfInBounds_self_of_lt
def Y8:=@Int.le_refl
def Y9:=@List.pairwise_append
def Wa:=@List.eraseIdx_cons_succ
def Wb:=@ChangeMaps.map_eraseIdx
def Wc:=@List.getElem_of_mem
def Wd:=@List.find?_cons_of_neg
def We:=@List.filter_eq_nil_iff
def Wf:=@Nat.lt_or_ge
def Wg:=@Bool.and_false
def Wh:=@World.ownsMap_made
def Wi:=@Array.toList_eraseIdx
def Wj:=@List.eraseIdx_sublist
def Wk:=@List.drop_eq_getElem_cons
def Wl:=@Addr.add_mid
def Wm:=@List.getElem?_modify
def Wn:=@Nat.pow_le_pow_right
def Wp:=@List.mem_append_left
def Wq:=@List.getElem?_take_of_lt
def Ws:=@Option.isSome_iff_exists
def Wt:=@List.eq_of_mem_replicate
def Wu:=@Array.length_toList
def Wv:=@Array.toList_modify
def Ww:=@List.drop_succ_cons
def Wx:=@List.any_eq_true
def Wy:=@World.size_alloc
def Wz:=@Nat.mod_lt
def WA:=@Nat.lt_irrefl
def WB:=@Bool.not_true
def WC:=@Bool.and_eq_false_iff
def WD:=@List.countP_le_length
def WE:=@List.take_append_drop
def WF:=@List.getElem?_reverse
def WG:=@Bool.not_eq_true'
def WH:=@Bool.false_and
def WI:=@List.drop_zero
def WJ:=@Nat.le_succ
def WK:=@Nat.le_of_eq
def WL:=@Array.getElem?_eq_getElem
def WM:=@List.getElem?_zip_eq_some
def WN:=@List.getLast?_eq_getElem?
def WO:=@Classical.byContradiction
def WP:=@ByteArray.toList_eq
def WQ:=@Array.toList_filter
def WR:=@List.map_eq_nil_iff
def WS:=@Bool.and_true
def WT:=@Nat.add_assoc
def WU:=@Below.setCell
def WV:=@List.sum_append
def WW:=@List.getElem?_drop
def WX:=@Value.string.injEq
def WY:=@List.zip_cons_cons
def WZ:=@List.pairwise_cons
def W0:=@Nat.one_mul
def W6:=@List.pairwise_singleton
def W7:=@List.all_eq_false
def Ka:=@List.take_succ_eq_append_getElem
def Kb:=@Nat.succ_mul
def Kd:=@Array.getElem?_eq_none
def Ke:=@Result.andThen_ok
def Kf:=@Array.toList_push
def Kg:=@List.mapM_cons
def Kh:=@Nat.mul_le_mul
def Ki:=@List.Pairwise.map
def Kj:=@List.pairwise_map
def Kk:=@List.singleton_append
def Kl:=@List.mem_iff_getElem?
def Km:=@List.perm_append_comm
def Kn:=@Go.Sort.alloc_eq_grow
def Ko:=@List.flatMap_map
def Kr:=@List.any_cons
def Ks:=@List.mapM_nil
def Ku:=@Bool.and_self
def Kv:=@List.getElem?_append
def Kw:=@List.take_append_of_le_length
def Kx:=@List.map_id
def Ky:=@Array.replicate_succ
def Kz:=@Array.replicate_zero
def KA:=@List.length_eraseIdx
def KB:=@Array.getElem?_setIfInBounds
def KC:=@Value.int.injEq
def KD:=@List.range_succ
def KE:=@Array.size_push
def KF:=@Bool.eq_iff_iff
def KG:=@List.Perm.of_eq
def KH:=@Array.getElem?_push
def KI:=@List.append_toArray
def KJ:=@Nat.add_zero
def KK:=@Ne.symm
def KM:=@Nat.sub_self
def KP:=@Nat.le_of_lt
def KQ:=@Go.WideMaps.keyOf_string_mk
def KS:=@Int.tmod_eq_emod_of_nonneg
def KT:=@Nat.add_sub_cancel
def KU:=@List.find?_eq_none
def KV:=@List.perm_ext_iff_of_nodup
def KX:=@List.mem_of_find?_eq_some
def KY:=@Nat.add_mul
def KZ:=@List.getElem?_set
def K2:=@List.size_toArray
def K3:=@List.push_toArray
def K5:=@List.mem_of_mem_eraseIdx
def K6:=@Nat.lt_succ_self
def K7:=@Go.WideShapes.bytes_inj
def K8:=@List.eraseIdx_cons_zero
def K9:=@List.map_flatMap
def TJ:=@Sem.run_bind
def TH:=@Nat.zero_mul
def Zl:=@List.all_append
def Zk:=@Oper.upon_value
def Zj:=@List.zip_append
def Zi:=@Nat.min_eq_left
def TG:=@Below.trans
end Go.Proofs.YtikojfajahnhgaaGreat
namespace Go
def RowKit.Hid.o{p:Prop}(h:RowKit.Hid p):p:=h
def Shut.o{p:Prop}(h:Shut p):p:=h
end Go
namespace Go.Proofs.YtikojfajahnhgaaGreat
open Go.RowKit Go.Proofs.Tryz
variable{P:Prop}
def qd(h:P:=by omega):=h
def qe(h:P:=by simp):=h
def qf(h:P:=by simp;omega):=h
def qg(h:P:=by kernel_rfl):=h
def qh(h:P:=by decide):=h
def qi(h:P:=by rfl):=h
def qj(h:P:=by unfold maxLen;omega):=h
def qk(h:P:=by assumption):=h
def ql(h:P:=by simp[go_sem]):=h
def qm(h:P:=by go_num):=h
def qo(h:P:=by cases e):=h
def qp(h:P:=by intro x hx;rcases List.mem_append.1 hx with hx|hx;exact HV.o x hx;simp at hx;subst hx;exact⟨by decide,by decide,by decide⟩):=h
def qq(h:P:=by simpa using h):=h
def qr(h:P:=by intro u hu;simp at hu;rcases hu with rfl|rfl|rfl|rfl;exact rfl;exact rfl;exact rfl;exact rfl):=h
def qt(h:P:=by rcases ht with rfl|rfl|rfl|rfl<;>decide):=h
def qu(h:P:=by simpa using h2):=h
def qv(h:P:=by first|(simp;done)|(simp;omega)):=h
def qw(h:P:=by simpa using h1):=h
def qx(h:P:=by rcases ht with rfl|rfl|rfl|rfl|rfl|rfl<;>decide):=h
def qy(h:P:=by simpa using hd):=h
def qz(h:P:=by simp[World.frozen?,ah.o]):=h
def qA(h:P:=by rcases ht with rfl|rfl<;>decide):=h
def qB(h:P:=by simp at hx):=h
def qC(h:P:=by injection e' with e';rw[e'];exact hS):=h
def qD(h:P:=by simpa using h0):=h
def qE(h:P:=by simp[World.cell?,af]):=h
def qF(h:P:=by intro i o ho c hc;rcases i with _|_|_|_|_|_|_|i<;>simp at ho<;>subst ho<;>cases hc):=h
def qG(h:P:=by first|rfl|simp):=h
def qH(h:P:=by simp[results,results85,go_sem]):=h
def qI(h:P:=by simp[Builtin.delete_,run_underlying hm,gM hb,Ma H,hf,sM hb]):=h
def qJ(h:P:=by rw[(Aw hb').2 _ _ (by simp)];simp[go_sem]):=h
def qK(h:P:=by injection e with e;omega):=h
def qL(h:P:=by intro u hu;simp at hu;subst hu;rfl):=h
def qM(h:P:=by injection e' with e';exact e'.y):=h
def qN(h:P:=by simp[results,results60,asAddr,C6.load ai.o]):=h
def qO(h:P:=by simp[results,results195,go_sem,f0,f1,f2,f3,f4,f5,Mm,Fu]):=h
def qP(h:P:=by simp at ai⊢;omega):=h
def qQ(h:P:=by rw[show(R.l vw).map (λn=>(Gz n).2)=R.xs.map (·.nb) from iw hR.len];exact hR.cF):=h
def qR(h:P:=by intro x hx;rw[List.eq_of_mem_replicate hx];exact⟨by decide,by decide,by decide⟩):=h
def qS(h:P:=by rcases ht with rfl|rfl|rfl<;>decide):=h
def qT(h:P:=by(try dsimp only);(first|(simp[go_sem, *];done)|exact zab Aj (by assumption))):=h
def qU(h:P:=by have:=heap_alloc_new (w.alloc o1) O;simpa using this):=h
def qV(h:P:=by(match j,hj with|0,_=>simp[go_sem]|1,_=>simp[go_sem]|2,_=>simp[go_sem])):=h
def qX(h:P:=by(try dsimp only);exact⟨zab (aR.o _) m0,zab (aR.o _) m1,zab (aR.o _) m2⟩):=h
def qY(h:P:=by unfold Pe;decide):=h
def qZ(h:P:=by simpa using O):=h
def pw(h:P:=by(try dsimp only);exact⟨zab O m0,zab O v2,zab O t0,zab O t1,zab O t2⟩):=h
def pu(h:P:=by rw[aw.o.cell (p:=⟨wr.heap.size,0,none⟩) (by simp;omega)];exact aU.o):=h
def Lu(h:P:=by simpa using hl):=h
def Z3(h:P:=by simp[results,results34,go_sem,e0,e1,e2,e3,I_]):=h
def pq(h:P:=by simp only[leftOf,Array.toList_filter,List.mem_filter]at hz;exact hz.1):=h
def Hy(h:P:=by simp[k2]):=h
def Hx(h:P:=by cases hf):=h
def O5(h:P:=by simp[World.frozen?,O]):=h
def pp(h:P:=by rw[G.o,O,e1,e2,e3,h1,h3,h4,decide_eq_true o1,decide_eq_true o2];rfl):=h
def O4(h:P:=by simp;have:=HJ.o;omega):=h
def Z2(h:P:=by simp[results,results157,asAddr,C6.load aq.o]):=h
def Ug(h:P:=by rcases hz with hz|hz<;>omega):=h
def Z1(h:P:=by simp[results,results147,go_sem,f0,f1,f2,vV]):=h
def Z0(h:P:=by simp[results,results62,asAddr,C6.load aq.o]):=h
def pj(h:P:=by rw[e];exact List.mem_map.2 ⟨(x,v),List.mem_of_getElem? h,rfl⟩):=h
def Nt(h:P:=by simp[C6.ad]at hf):=h
def Uf(h:P:=by injection e with e;exact e.y):=h
def Ue(h:P:=by injection O with O;exact O.y):=h
def pi(h:P:=by(try dsimp only);exact bo.o _ (Turned.setCells [_,_,_,_] 0 w7 _)):=h
def J1(h:P:=by injection e):=h
def Mt(h:P:=by simpa using h3):=h
def Mr(h:P:=by decide +kernel):=h
def Mq(h:P:=by simpa using ht):=h
def Ns(h:P:=by simpa using hlen):=h
def ZZ(h:P:=by simp[results,results45,go_sem,C6.val, *]):=h
def ZY(h:P:=by simp[results,results114,go_sem,Hg, *]):=h
def IQ(h:P:=by simp[k4]):=h
def IP(h:P:=by simp[hd]):=h
def rC(h:P:=by(try dsimp only);exact⟨zab af x0,zab af x1,zab af x2⟩):=h
def rB(h:P:=by intro u hu;simp[Fb]at hu;rcases hu with rfl|rfl<;>rfl):=h
def Gx(h:P:=by rw[e]):=h
def rA(h:P:=by rw[List.mem_singleton.1 h'];exact⟨w1,w2,w3,w4,w5,w6⟩):=h
def q_(h:P:=by rw[HR.o,HL.o,decide_eq_true (p:=l.tag<nx) (by omega)];rfl):=h
def Un(h:P:=by have:=(HO.o.lt _ e).2;omega):=h
def Nx(h:P:=by simpa using hc):=h
def Um(h:P:=by simp[World.frozen?,af.o.1]):=h
def Nv(h:P:=by simpa using hz):=h
def Z5(h:P:=by rw[<-List.append_assoc];exact ay.o):=h
def Jc(h:P:=by simp[hy]):=h
def Jb(h:P:=by simp[hk]):=h
def Q6(h:P:=by simp only[Ml];omega):=h
def pz(h:P:=by rw[am];first|exact(Int.ofNat_tmod _ _).y|rfl):=h
def Z4(h:P:=by rw[aF.o,List.map_append,aE.o,aB.o]):=h
def Nu(h:P:=by rw[TF];omega):=h
def py(h:P:=by first|decide|(dsimp only;decide)|(simp;done)):=h
def Ul(h:P:=by simp[World.cell?,aq.o.1]):=h
def Uk(h:P:=by simp[World.cell?,af.o.1]):=h
def Uj(h:P:=by have:=af.size;simp;omega):=h
def Ui(h:P:=by have:=ak.size;simp;omega):=h
def Uh(h:P:=by cases e;revert hn;decide):=h
def O_(h:P:=by rw[hi];exact hf):=h
def px(h:P:=by rw[List.mem_singleton.1 hx];exact O.o.le.2 q au.o):=h
def JZ(h:P:=by simp[hl]):=h
def ph(h:P:=by simp[results,results157,go_sem,ah,C6.val,C6.ad]):=h
def pg(h:P:=by have:=HLK.o _ _ _ az ar;rw[hi]at this;exact this):=h
def ZW(h:P:=by simp[results,results144,go_sem]):=h
def pe(h:P:=by simp[results,results60,go_sem,ah,C6.val,C6.ad]):=h
def OX(h:P:=by simpa using hi):=h
def OW(h:P:=by simpa using hk):=h
def Ub(h:P:=by first|decide|omega):=h
def p_(h:P:=by have:=(aq.o.2.1.lt k hk);have:=bj.o k hk;omega):=h
def ZV(h:P:=by rw[h.len];exact Nat.le_refl _):=h
def Ua(h:P:=by simp[Fence.wide]at hx):=h
def Lt(h:P:=by simp[k3]):=h
def ZU(h:P:=by rw[zga fs xs h.len];exact ho):=h
def ZT(h:P:=by rwa [zdR ht (by omega)]at hj):=h
def Lr(h:P:=by simp[hV]):=h
def ZS(h:P:=by rintro⟨_,_,hh⟩;exact hh):=h
def T_(h:P:=by simp[World.cell?,h1]):=h
def OV(h:P:=by rw[HN.o];rfl):=h
def ZR(h:P:=by injection hg with hg;omega):=h
def T9(h:P:=by have:=ak.size;omega):=h
def QY(h:P:=by simpa using hj):=h
def QX(h:P:=by simpa using k2):=h
def QW(h:P:=by simpa using hy):=h
def QV(h:P:=by simpa using ho):=h
def T8(h:P:=by rw[HL.o];exact US):=h
def T5(h:P:=by rw[h.len];exact hi):=h
def ZX(h:P:=by have:=h.rest.size;omega):=h
def OY(h:P:=by simp at hf):=h
def Mp(h:P:=by simp[O]):=h
def Ud(h:P:=by simpa using ao.o):=h
def Nr(h:P:=by rw[HN.o]):=h
def QZ(h:P:=by rw[h];decide):=h
def Uc(h:P:=by subst e;cases O):=h
def Np(h:P:=by cases q):=h
def JV(h:P:=by
 go_enter func250,ntmps250;go_wp2;go_region
 all_goals go_wp2
 all_goals refine bodyPost_ret (v:=.tuple #[.agg #[I6 (S.length:Int),I6 0],.bool false]) (by simp[results,results250,go_sem]) rfl ⟨?_,?_⟩
 all_goals first|(rw[HN.o];done)|(repeat first|exact Bj|refine Below.drew ?_|refine Below.setCell ?_ (by first|(simp;done)|(simp;omega)) _;done)
 ):=h
def oq(h:P:=by
 go_wp2
 go_loopw [3,9] (λl i wr=>∃(k:Nat),k<=x.v.length/\i=I6 k/\l=I6 (Ad (x.v.take k):Int)/\Bw w wr) (λ_ i _=>x.v.length-(intOf i).toNat)
 case atStart=>exact⟨0,by omega,rfl,by simp[Ad],Aj⟩
 case round=>
  obtain⟨k,hk,rfl,rfl,hb⟩:=hrel;have hp:Ad (x.v.take k)<=x.v.length:=Nat.le_trans List.countP_le_length (by simp;omega);by_cases ai:k<x.v.length
  .obtain⟨p,af⟩:=Ba ai;obtain⟨b,o,a_terms,c_terms,rfl,hq,c0,c1,c2,ah⟩:=(O.d hb).get af;have HT:Hid (x.v.take (k+1)=x.v.take k++[p]):=Mh _ _ _ af;have B1:∀o,Bw w (wr.alloc o):=λo=>hb.alloc hb.size _;cases hn:p.neg
   all_goals
    rw[hn]at c0;go_wp2;go_roundw
    case rel=>exact⟨k+1,by omega,by go_num,by rw[HT.o];simp[Ad,FW,hn],B1 _⟩
    case measure=>simp[intOf];omega
  go_wp2;go_ret;rw[List.take_of_length_le (by omega)];exact⟨rfl,hb⟩
 ):=h
def Zz(h:P:=by
 have hy:¬(L.length:Int)<(L.length:Int):=by omega
 go_wp2_with fail;go_end0;refine⟨rfl,⟨V',NR.o.same (λi y hy=>?_)⟩,FR.o⟩;have hi:=(List.getElem?_eq_some_iff.1 hy).1;simp[hi]
 ):=h
def QR(h:P:=by go_wp2;go_ret;exact⟨AL (by rw[HG.o,List.drop_eq_nil_of_le (by omega)];rfl),hb⟩):=h
def pI(h:P:=by
 obtain⟨aj,HG2⟩:=Ah af ah;have au:=hown.lt;clear af ah hI hown;go_wp2;clear ai;go_roundw
 case rel=>exact⟨k+1,_,by omega,by go_num,aj.o,aq,(hb.alloc hb.size _).grown HG2.o (by have:=hb.size;simp;omega) (λj hj=>by cases hj;omega)⟩
 case measure=>(simp;omega)
 ):=h
def TW(h:P:=by show(w.heap.setIfInBounds b _)[b]?=_;rw[Array.getElem?_setIfInBounds_self_of_lt h.lt]):=h
def Nh(h:P:=by rw[show((j-1:Nat):Int)=(j:Int)-1 by omega]):=h
def TU(h:P:=by have:=(List.getElem?_eq_some_iff.1 hj).1;simp at this;exact this):=h
def oy(h:P:=by have:=congrArg (List.map Prod.fst) (show es.toList.map (λe=>(e.key,e.val))=L.map (λx=>(AM x.1,x.2)) from he);rw[List.map_map,List.map_map]at this;rw[List.map_map];exact this):=h
def oE(h:P:=by have h1:IntKind.i64.min = -9223372036854775808:=rfl;have h2:IntKind.i64.max=9223372036854775807:=rfl;simp only[Lit.wf,h1,h2,Bool.and_eq_true,decide_eq_true_eq];omega):=h
def TM(h:P:=by simp only[List.map_nil,BK];exact List.flatMap_singleton' TT):=h
def Zt(h:P:=by refine⟨⟨?_,?_,?_,?_⟩,λj=>?_,Ak h⟩<;>simp[World.cell?,World.frozen?,h]):=h
def QK(h:P:=by rw[HG.o,List.drop_eq_nil_of_le (by omega)];rfl):=h
def nh(h:P:=by obtain⟨b,o,r,h1,h2,h3,h4,h5⟩:=h i x hi;subst h5;exact⟨b,o,h1,h2,h4 0 _ rfl,h4 1 _ rfl,h4 2 _ rfl,h4 3 _ rfl,h4 4 _ rfl,h4 5 _ rfl⟩):=h
def Mn(h:P:=by go_ret;exact⟨rfl,rfl⟩):=h
def Zr(h:P:=by
 split at h
 .injection h with h;rw[<-h];exact⟨rfl,rfl⟩
 cases h
 ):=h
def oW(h:P:=by obtain⟨f,_,rfl⟩:=List.mem_map.1 hz;obtain⟨f',_,e⟩:=List.mem_map.1 O;exact hne (Qn e).1.y):=h
def oR(h:P:=by exact(((hB.setCell (by simp) _).setCell (by simp) _).setCell (by simp) _).setCell (by simp) _):=h
def OU(h:P:=by rw[IntKind.wrap_i64];omega):=h
def oM(h:P:=by
 rcases List.mem_append.1 hy with hy|hy
 .exact h.all y hy
 simp at hy;subst hy;exact hx
 ):=h
def oL(h:P:=by go_wp2;go_ret;exact⟨EB (by rw[HG.o,List.drop_eq_nil_of_le (by omega)];rfl),hb⟩):=h
def oK(h:P:=by
 rcases List.mem_append.1 hy with hy|hy
 .exact h.2 y hy
 simp at hy;exact hy▸hx
 ):=h
def oI(h:P:=by have h1:=Co (i:=0) O y0;exact h _ (by simpa using h1) (Turned.setCells [y0] 0 w b)):=h
def Zw(h:P:=by
 go_wp2_with fail
 go_meet;exact⟨rfl,rfl⟩
 ):=h
def Zv(h:P:=by rcases hv with rfl|rfl|rfl|rfl<;>rfl):=h
def nV(h:P:=by
 intro j v hj;have O:j=0:=by
  exact TU
 subst O;simp at hj;subst hj;simpa using h0
 ):=h
def Ah{a b:Prop}(x0:a)(x1:b):Go.RowKit.Hid a/\Go.RowKit.Hid b:=⟨x0,x1⟩
def AA{b a c:Prop}(x0:b)(x1:a)(d:c):Go.RowKit.Hid b/\Go.RowKit.Hid a/\Go.RowKit.Hid c:=⟨x0,x1,d⟩
def Bn{c a d b:Prop}(x0:c)(x1:a)(e:d)(f:b):Go.RowKit.Hid c/\Go.RowKit.Hid a/\Go.RowKit.Hid d/\Go.RowKit.Hid b:=⟨x0,x1,e,f⟩
def DE{c a e b d:Prop}(x0:c)(x1:a)(g:e)(i:b)(f:d):Go.RowKit.Hid c/\Go.RowKit.Hid a/\Go.RowKit.Hid e/\Go.RowKit.Hid b/\Go.RowKit.Hid d:=⟨x0,x1,g,i,f⟩
def Jk{d a f c e b:Prop}(x0:d)(x1:a)(j:f)(k:c)(i:e)(g:b):Go.RowKit.Hid d/\Go.RowKit.Hid a/\Go.RowKit.Hid f/\Go.RowKit.Hid c/\Go.RowKit.Hid e/\Go.RowKit.Hid b:=⟨x0,x1,j,k,i,g⟩
def Jj{d a f c e b g:Prop}(x0:d)(x1:a)(k:f)(m:c)(j:e)(i:b)(l:g):Go.RowKit.Hid d/\Go.RowKit.Hid a/\Go.RowKit.Hid f/\Go.RowKit.Hid c/\Go.RowKit.Hid e/\Go.RowKit.Hid b/\Go.RowKit.Hid g:=⟨x0,x1,k,m,j,i,l⟩
def Up{f e i b g a d c:Prop}(x0:f)(x1:e)(k:i)(l:b)(m:g)(j:a)(n:d)(o:c):Go.RowKit.Hid f/\Go.RowKit.Hid e/\Go.RowKit.Hid i/\Go.RowKit.Hid b/\Go.RowKit.Hid g/\Go.RowKit.Hid a/\Go.RowKit.Hid d/\Go.RowKit.Hid c:=⟨x0,x1,k,l,m,j,n,o⟩
def LA{g f j c i a e d b:Prop}(x0:g)(x1:f)(l:j)(n:c)(o:i)(k:a)(p:e)(q:d)(m:b):Go.RowKit.Hid g/\Go.RowKit.Hid f/\Go.RowKit.Hid j/\Go.RowKit.Hid c/\Go.RowKit.Hid i/\Go.RowKit.Hid a/\Go.RowKit.Hid e/\Go.RowKit.Hid d/\Go.RowKit.Hid b:=⟨x0,x1,l,n,o,k,p,q,m⟩
def hdd{p:Prop}(h:p):Hid p:=h
end Go.Proofs.YtikojfajahnhgaaGreat
