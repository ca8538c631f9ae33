import Derived.Below
import Derived.WalkKit
import Derived.WalkSpells
import Derived.WalkLawsBesides
import Derived.Laws.IdiomCopy
import Derived.Deep.RegionHeld3
import Derived.Deep.DrawnRows
import Derived.Deep.Slices
import Derived.Deep.Strs
import Derived.Lib.SmallJoins
import Derived.Deep.MidRow
import Derived.Laws.CopyOwn
import Derived.Deep.RegionLaw
import Derived.Maps.AppendAt
import Derived.Laws.OwnMore
import Derived.Laws.Strings
import Derived.BigQuiet
import Derived.Lib.Bytealg
import Derived.Laws.BytesArg
import Derived.LaidEql
import Derived.Maps.RangeRun
import Derived.MapKept
import Derived.RangeFuncFrom
import Derived.RangeFuncCalls
import Derived.OwnWalkIn
import Derived.OrdersHeld
import Derived.Deep.DeepCutAuto
import Derived.Lib.Small
import Derived.RangeFuncNested
import Derived.Maps.OwnSet
import Derived.Maps.RangeWalk
import Derived.DeepKeys4
import Derived.Deep.Cut
import Derived.StringKeys
import Derived.Maps.Own
import Derived.Maps.Views
import Derived.Maps.Keyed
import Derived.Shelf.SlMaps.Clone
import Derived.Deep.RegionWith
import Derived.Deep.QuietTactic
import Derived.RangeFuncBound
import Derived.RangeFuncLeaves
import Derived.Shelf.Abstract
import Derived.TacticsInMore
import Derived.Sort.OwnSortedInts
import Derived.ProofKit
import Derived.OpenShut
import Derived.ShutString
import Derived.ChangeOld
import Derived.Test.YtikojfajahnhgaaGreatRows
set_option linter.defProp false
namespace Go.Proofs.YtikojfajahnhgaaGreat
open Go.RowKit
abbrev Ca:=Calls Tryz.prog
def Cb{p:Prop}(h:p):Hid p:=h
end Go.Proofs.YtikojfajahnhgaaGreat
def Eq.j:=@Eq.trans
def Iff.j:=@Iff.trans
def List.Perm.j:=@List.Perm.trans
def Go.RowKit.Below.j:=@Go.RowKit.Below.trans
def Go.RowKit.Below.ac:=@Go.RowKit.Below.mono
def Go.Calls.ac:=@Go.Calls.mono
def Go.CallsIn.ac:=@Go.CallsIn.mono
def Go.RoundIn.ac:=@Go.RoundIn.mono
def Ne.ai:=@Ne.symm
def Or.ai:=@Or.symm
def List.Perm.ai:=@List.Perm.symm
def Eq.ai:=@Eq.symm
def Iff.ai:=@Iff.symm
set_option linter.all false
namespace Go.Proofs.YtikojfajahnhgaaGreat
open Go Go.RowKit
def yd:=@List.mem_of_getElem?
def yf:=@List.getElem?_eq_some_iff
def yg:=@List.mem_filter
def yh:=@Nat.lt_of_lt_of_le
def yi:=@Nat.le_trans
def yj:=@List.getElem?_toArray
def yk:=@Bool.and_eq_true
def ym:=@Array.getElem?_eq_some_iff
def yn:=@List.map_cons
def yp:=@List.length_map
def yq:=@List.setIfInBounds_toArray
def yr:=@List.mem_append
def yu:=@List.take_of_length_le
def yv:=@List.mem_singleton
def yw:=@List.getElem?_cons_succ
def yx:=@List.getElem?_map
def yz:=@List.mem_map
def yA:=@Nat.zero_le
def yB:=@List.getElem?_append_left
def yC:=@List.getElem?_cons_zero
def yD:=@List.drop_eq_nil_of_le
def yE:=@List.flatMap_cons
def yF:=@List.getElem?_append_right
def yG:=@List.set_cons_succ
def yH:=@List.length_cons
def yI:=@List.set_cons_zero
def yJ:=@List.map_append
def yK:=@List.getElem?_eq_getElem
def yL:=@List.filter_cons_of_pos
def yM:=@List.append_nil
def yN:=@List.filter_cons_of_neg
def yO:=@List.mem_cons
def yP:=@List.nodup_append
def yQ:=@List.filter_append
def yR:=@List.length_append
def yS:=@IntKind.wrap_i64
def yT:=@List.mem_map_of_mem
def yV:=@Below.heap_alloc
def yW:=@List.take_length
def yX:=@Nat.le_refl
def yY:=@List.take_add_one
def yZ:=@World.block_lt_of_cell?
def y8:=@World.cell?_of_block
def y9:=@World.ownsRow_nil
def Ya:=@Option.map_eq_some_iff
def Yb:=@Below.heap_setCell
def Yc:=@List.append_assoc
def Yd:=@List.length_filter_le
def Ye:=@List.cons_append
def Yf:=@NoPanic.normal
def Yg:=@List.nodup_cons
def Yh:=@List.cons.injEq
def Yi:=@AllReadyH.cons
def Yj:=@List.nil_append
def Yk:=@List.mem_flatMap
def Yl:=@List.getElem?_set_self
def Ym:=@Int.eq_ofNat_of_zero_le
def Yn:=@List.map_congr_left
def Yo:=@List.length_take
def Yp:=@List.map_map
def Yq:=@Array.getElem?_toList
def Yr:=@List.getElem?_eq_none
def Ys:=@AllReadyH.nil
def Yt:=@Nat.zero_add
def Yu:=@List.flatMap_append
def Yv:=@List.filter_eq_self
def Yw:=@Below.refl
def Yx:=@World.putObj_heap_other
def Yy:=@List.pairwise_append
def Yz:=@List.take_append_drop
def YA:=@List.mem_append_right
def YB:=@List.filter_filter
def YC:=@List.filter_nil
def YD:=@List.getElem?_of_mem
def YE:=@Bool.false_eq_true
def YF:=@List.map_nil
def YG:=@List.take_succ_cons
def YH:=@List.filter_sublist
def YI:=@List.not_mem_nil
def YJ:=@Nat.add_zero
def YK:=@Int.toNat_natCast
def YL:=@DataW.trod_int
def YM:=@List.ext_getElem?
def YN:=@List.sum_cons
def YO:=@List.flatMap_nil
def YP:=@Bool.true_and
def YQ:=@Nat.mul_le_mul_right
def YR:=@List.eq_nil_of_length_eq_zero
def YS:=@List.getElem?_set_ne
def YT:=@List.pairwise_iff_getElem
def YU:=@List.getElem?_take
def YV:=@List.length_nil
def YW:=@Prod.mk.injEq
def YX:=@List.all_eq_true
def YY:=@Option.getD_some
def YZ:=@Addr.add_mid
def Y0:=@List.filter_congr
def Y1:=@List.pairwise_map
def Y2:=@List.mem_cons_of_mem
def Y3:=@List.all_cons
def Y4:=@Value.slice.injEq
def Y5:=@Option.some.injEq
def Y6:=@Array.getElem?_modify
def Y7:=@List.take_zero
def Y8:=@List.filter_map
def Y9:=@List.length_eq_zero_iff
def Wa:=@List.mem_of_mem_take
def Wb:=@List.mem_append_left
def Wc:=@List.Perm.refl
def Wd:=@Nat.mul_le_mul
def We:=@List.nodup_nil
def Wf:=@Calls.quiet_of_same
def Wg:=@Option.map_some
def Wh:=@Array.getElem?_setIfInBounds_ne
def Wi:=@List.pairwise_flatMap
def Wj:=@List.mem_cons_self
def Wk:=@Array.getElem?_setIfInBounds_self_of_lt
def Wl:=@List.getElem?_take_of_lt
def Wm:=@Int.le_refl
def Wn:=@DataW.trod_string
def Wp:=@List.eraseIdx_cons_succ
def Wq:=@ChangeMaps.map_eraseIdx
def Ws:=@List.drop_succ_cons
def Wt:=@List.getElem_of_mem
def Wu:=@Array.toList_filter
def Wv:=@List.find?_cons_of_neg
def Ww:=@List.filter_eq_nil_iff
def Wx:=@Nat.lt_or_ge
def Wy:=@World.size_alloc
def Wz:=@Bool.and_false
def WA:=@List.getElem?_drop
def WB:=@World.ownsMap_made
def WC:=@Array.toList_eraseIdx
def WD:=@List.eraseIdx_sublist
def WE:=@List.drop_eq_getElem_cons
def WF:=@World.cell?_setCell_other
def WG:=@List.getElem?_zip_eq_some
def WH:=@List.take_succ_eq_append_getElem
def WI:=@Bool.not_eq_true'
def WJ:=@List.getElem?_modify
def WK:=@DataW.trod_struct
def WL:=@Nat.pow_le_pow_right
def WM:=@Below.setCell
def WN:=@Option.isSome_iff_exists
def WO:=@List.eq_of_mem_replicate
def WP:=@Array.toList_modify
def WQ:=@List.drop_zero
def WR:=@List.pairwise_singleton
def WS:=@World.cell?_setCell_far
def WT:=@List.pairwise_cons
def WU:=@Bool.not_true
def WV:=@Bool.and_eq_false_iff
def WW:=@List.getElem?_reverse
def WX:=@Bool.false_and
def WY:=@List.perm_ext_iff_of_nodup
def WZ:=@List.getElem_mem
def W0:=@Nat.le_of_eq
def W6:=@List.map_set
def W7:=@Nat.sub_self
def Ka:=@List.any_eq_true
def Kb:=@List.map_flatMap
def Kd:=@Array.getElem?_eq_getElem
def Ke:=@List.getLast?_eq_getElem?
def Kf:=@Classical.byContradiction
def Kg:=@ByteArray.toList_eq
def Kh:=@Array.length_toList
def Ki:=@List.map_eq_nil_iff
def Kj:=@List.sum_append
def Kk:=@Int.natCast_add
def Kl:=@List.length_set
def Km:=@Value.string.injEq
def Kn:=@Below.trans
def Ko:=@Nat.mul_one
def Kr:=@Nat.le_succ
def Ks:=@Nat.le_mul_of_pos_right
def Ku:=@List.all_eq_false
def Kv:=@Nat.succ_mul
def Kw:=@Array.getElem?_eq_none
def Kx:=@Result.andThen_ok
def Ky:=@Array.toList_push
def Kz:=@List.mapM_cons
def KA:=@List.Pairwise.map
def KB:=@List.perm_append_comm
def KC:=@List.set_append_right
def KD:=@List.countP_le_length
def KE:=@Go.Sort.alloc_eq_grow
def KF:=@List.flatMap_map
def KG:=@Bool.and_true
def KH:=@Nat.lt_irrefl
def KI:=@List.any_cons
def KJ:=@List.mapM_nil
def KK:=@Bool.and_self
def KM:=@DataW.trod_lt
def KO:=@List.take_append_of_le_length
def KP:=@List.getElem?_append
def KQ:=@List.map_id
def KS:=@Nat.one_mul
def KT:=@List.length_eraseIdx
def KU:=@List.all_append
def KV:=@Array.getElem?_setIfInBounds
def KX:=@List.zip_append
def KY:=@Value.int.injEq
def KZ:=@Bool.eq_iff_iff
def K3:=@Array.size_push
def K4:=@List.Perm.of_eq
def K5:=@List.mem_zipIdx_iff_getElem?
def K6:=@Array.getElem?_push
def K7:=@Ne.symm
def K8:=@List.set_set
def K9:=@Nat.le_of_lt
def mY:=@Go.WideMaps.keyOf_string_mk
def XD:=@Nat.add_sub_cancel
def XC:=@List.find?_eq_none
def Qp:=@Nat.add_mul
def XB:=@List.getElem?_set
def XA:=@World.cells?_some
def Xz:=@Nat.lt_succ_self
def S_:=@Sem.run_bind
def Qo:=@Below.trod
def Xy:=@Oper.upon_value
def Xx:=@List.range_succ
def Xw:=@Nat.min_eq_left
end Go.Proofs.YtikojfajahnhgaaGreat
namespace Go
def RowKit.Hid.o{p:Prop}(h:RowKit.Hid p):p:=h
def Shut.o{p:Prop}(h:Shut p):p:=h
end Go
namespace Go.Proofs.YtikojfajahnhgaaGreat
open Go.RowKit Go.Proofs.Tryz
variable{P:Prop}
def qd(h:P:=by omega):=h
def qe(h:P:=by simp):=h
def qf(h:P:=by kernel_rfl):=h
def qg(h:P:=by simp;omega):=h
def qh(h:P:=by decide):=h
def qi(h:P:=by rfl):=h
def qj(h:P:=by assumption):=h
def qk(h:P:=by simp[go_sem]):=h
def ql(h:P:=by go_num):=h
def qm(h:P:=by unfold maxLen;omega):=h
def qn(h:P:=by exact Nat.le_refl _):=h
def qo(h:P:=by first|(simp;done)|(simp;omega)):=h
def qp(h:P:=by cases e):=h
def qq(h:P:=by simpa using h):=h
def qr(h:P:=by rcases ht with rfl|rfl|rfl|rfl<;>decide):=h
def qs(h:P:=by rcases ht with rfl|rfl<;>decide):=h
def qt(h:P:=by simpa using h1):=h
def qu(h:P:=by rcases ht with rfl|rfl|rfl|rfl|rfl|rfl<;>decide):=h
def qv(h:P:=by simpa using h2):=h
def qw(h:P:=by simpa using hd):=h
def qx(h:P:=by simp[World.frozen?,af.o]):=h
def qy(h:P:=by rcases ht with rfl|rfl|rfl<;>decide):=h
def qz(h:P:=by injection e' with e';rw[e'];exact hS):=h
def qA(h:P:=by simpa using O):=h
def qB(h:P:=by intro i o ho c hc;rcases i with _|_|_|_|_|_|_|i<;>simp at ho<;>subst ho<;>cases hc):=h
def qC(h:P:=by simpa using h0):=h
def qD(h:P:=by simp[results,results85,go_sem]):=h
def qE(h:P:=by simp[World.cell?,Y]):=h
def qF(h:P:=by simp[Builtin.delete_,run_underlying hm,gM hb,L7 H,hf,sM hb]):=h
def qG(h:P:=by rw[(Ah hb').2 _ _ (by simp)];simp[go_sem]):=h
def qH(h:P:=by first|rfl|simp):=h
def qI(h:P:=by simp[results,results60,asAddr,C6.load ah.o]):=h
def qJ(h:P:=by simp[World.cell?,ah]):=h
def qK(h:P:=by simp at ai⊢;omega):=h
def qL(h:P:=by rw[show(R.l vw).map (λn=>(GH n).2)=R.xs.map (·.nb) from iE hR.len];exact hR.ids):=h
def qM(h:P:=by(try dsimp only);exact⟨zab Y g4,zab Y g5,zab Y g6⟩):=h
def qN(h:P:=by simp at hx):=h
def qO(h:P:=by simp[results,results102,go_sem,y0,y1,y2]):=h
def qP(h:P:=by(try dsimp only);(first|(simp[go_sem, *];done)|exact zab Af (by assumption))):=h
def qQ(h:P:=by have:=heap_alloc_new (w.alloc Y) O;simpa using this):=h
def qR(h:P:=by(match j,hj with|0,_=>simp[go_sem]|1,_=>simp[go_sem]|2,_=>simp[go_sem])):=h
def qS(h:P:=by(try dsimp only);exact⟨zab (aP.o _) m0,zab (aP.o _) m1,zab (aP.o _) m2⟩):=h
def qT(h:P:=by intro u hu;simp[DJ]at hu;rcases hu with rfl|rfl|rfl|rfl|rfl<;>rfl):=h
def qU(h:P:=by simpa using Y):=h
def qV(h:P:=by(try dsimp only);exact⟨zab O m0,zab O v2,zab O t0,zab O t1,zab O t2⟩):=h
def qX(h:P:=by rcases hb with hb|hb<;>exact hb):=h
def qY(h:P:=by simpa using hc):=h
def qZ(h:P:=by simp[k2]):=h
def pF(h:P:=by rw[G.o,O,e1,e2,e3,h1,h3,h4,decide_eq_true o1,decide_eq_true o2];rfl):=h
def Zn(h:P:=by simp[results,results157,asAddr,C6.load ao.o]):=h
def Ty(h:P:=by rcases hz with hz|hz<;>omega):=h
def Zm(h:P:=by simp[results,results62,asAddr,C6.load am.o]):=h
def pE(h:P:=by rw[e];exact List.mem_map.2 ⟨(x,v),List.mem_of_getElem? h,rfl⟩):=h
def Nx(h:P:=by simp[C6.bad]at hf):=h
def Nv(h:P:=by unfold O5;decide):=h
def Tx(h:P:=by injection O with O;exact O.ai):=h
def pD(h:P:=by(try dsimp only);exact bv.o _ (Turned.setCells [_,_,_,_] 0 w7 _)):=h
def Mh(h:P:=by simpa using hl):=h
def Zl(h:P:=by simp[results,results45,go_sem,C6.val, *]):=h
def Nu(h:P:=by simpa using hlen):=h
def Zk(h:P:=by simp[results,results114,go_sem,Hi, *]):=h
def I1(h:P:=by simp[hd]):=h
def Zj(h:P:=by rcases ah with g|⟨_,g⟩<;>omega):=h
def I0(h:P:=by simp[k4]):=h
def pC(h:P:=by intro u hu;simp[Dk]at hu;rcases hu with rfl|rfl<;>rfl):=h
def Zi(h:P:=by have h1:=B6.o.size;have h2:=hg.1;omega):=h
def pB(h:P:=by rw[HR.o,HL.o,decide_eq_true (p:=l.tag<nx) (by omega)];rfl):=h
def oz(h:P:=by rw[List.mem_singleton.1 h'];exact⟨w1,w2,w3,w4,w5,w6⟩):=h
def Lu(h:P:=by injection e):=h
def Tw(h:P:=by have:=(HO.o.lt _ e).2;omega):=h
def QG(h:P:=by simp[World.frozen?,O]):=h
def oy(h:P:=by(try dsimp only);exact⟨zab Y x0,zab Y x1,zab Y x2⟩):=h
def Nt(h:P:=by simpa using h3):=h
def Ns(h:P:=by decide +kernel):=h
def NB(h:P:=by simpa using ht):=h
def NA(h:P:=by simpa using hz):=h
def Zu(h:P:=by rw[<-List.append_assoc];exact ax.o):=h
def Jq(h:P:=by simp[hk]):=h
def QI(h:P:=by simp[Value.ownBlock]):=h
def Jp(h:P:=by cases hf):=h
def Zt(h:P:=by intro u hu;simp at hu;subst hu;rfl):=h
def Zr(h:P:=by rw[aF.o,List.map_append,aC.o,aA.o]):=h
def Nz(h:P:=by rw[S9];omega):=h
def QH(h:P:=by simp[World.cell?,O]):=h
def TF(h:P:=by have:=af.size;simp;omega):=h
def TE(h:P:=by have:=am.size;simp;omega):=h
def Tz(h:P:=by cases e;revert hn;decide):=h
def K2(h:P:=by simp[hl]):=h
def J_(h:P:=by simp[hy]):=h
def pJ(h:P:=by simp[results,results157,go_sem,af,C6.val,C6.bad]):=h
def pI(h:P:=by have:=HLK.o _ _ _ aA ay;rw[hi]at this;exact this):=h
def Zq(h:P:=by have:=O.size;simp at this;omega):=h
def Zp(h:P:=by injection Y with Y;exact Y.ai):=h
def Zo(h:P:=by simp[results,results144,go_sem]):=h
def H4(h:P:=by rw[e]):=h
def Ny(h:P:=by rw[HX.o];rfl):=h
def pH(h:P:=by rw[Nat.mul_comm (41^ps.length),Nat.mul_assoc]):=h
def pG(h:P:=by simp[results,results60,go_sem,af,C6.val,C6.bad]):=h
def OX(h:P:=by simpa using hi):=h
def Mi(h:P:=by simp at hf):=h
def QF(h:P:=by have:=ho.lt;omega):=h
def Zh(h:P:=by rw[h.len];exact Nat.le_refl _):=h
def Tv(h:P:=by simp[Fence.wide]at hx):=h
def Lt(h:P:=by simp[k3]):=h
def Zg(h:P:=by rwa [zdG ht (by omega)]at hj):=h
def Zf(h:P:=by rw[zga fs xs h.len];exact ho):=h
def Lr(h:P:=by simp[hV]):=h
def Ze(h:P:=by rintro⟨_,_,hh⟩;exact hh):=h
def Tu(h:P:=by simp[World.cell?,ai]):=h
def OW(h:P:=by rw[HN.o];rfl):=h
def Tq(h:P:=by have:=am.size;omega):=h
def QE(h:P:=by simpa using hj):=h
def QD(h:P:=by simpa using hk):=h
def QC(h:P:=by simpa using k2):=h
def QB(h:P:=by simpa using e1):=h
def QA(h:P:=by simpa using hy):=h
def Qz(h:P:=by simpa using ho):=h
def Tp(h:P:=by rw[HL.o];exact Ug):=h
def To(h:P:=by rw[h.len];exact hi):=h
def Zd(h:P:=by injection e with e;omega):=h
def Qy(h:P:=by rw[h];decide):=h
def Nr(h:P:=by rw[HN.o]):=h
def Np(h:P:=by cases q):=h
def J1(h:P:=by
 go_enter func250,ntmps250;go_wp2;go_region
 all_goals go_wp2
 all_goals refine bodyPost_ret (v:=.tuple #[.agg #[I6 (S.length:Int),I6 0],.bool false]) (by simp[results,results250,go_sem]) rfl ⟨?_,?_⟩
 all_goals first|(rw[HN.o];done)|(repeat first|exact Ba|refine Below.drew ?_|refine Below.setCell ?_ (by first|(simp;done)|(simp;omega)) _;done)
 ):=h
def oV(h:P:=by
 go_wp2
 go_loopw [3,9] (λl i wr=>∃(k:Nat),k<=x.af.length/\i=I6 k/\l=I6 (Ad (x.af.take k):Int)/\Bw w wr) (λ_ i _=>x.af.length-(intOf i).toNat)
 case atStart=>exact⟨0,by omega,rfl,by simp[Ad],Af⟩
 case round=>
  obtain⟨k,hk,rfl,rfl,hb⟩:=hrel;have hp:Ad (x.af.take k)<=x.af.length:=Nat.le_trans List.countP_le_length (by simp;omega);by_cases ah:k<x.af.length
  .obtain⟨p,Y⟩:=AJ ah;obtain⟨b,o,a_terms,c_terms,rfl,hq,c0,c1,c2,af⟩:=(O.J hb).get Y;have HT:Hid (x.af.take (k+1)=x.af.take k++[p]):=GC _ _ _ Y;have B1:∀o,Bw w (wr.alloc o):=λo=>hb.alloc hb.size _;cases hn:p.neg
   all_goals
    rw[hn]at c0;go_wp2;go_roundw
    case rel=>exact⟨k+1,by omega,by go_num,by rw[HT.o];simp[Ad,GE,hn],B1 _⟩
    case measure=>simp[intOf];omega
  go_wp2;go_ret;rw[List.take_of_length_le (by omega)];exact⟨rfl,hb⟩
 ):=h
def Mf(h:P:=by
 go_wp2;go_roundw
 case rel=>exact⟨k+1,by omega,by go_num,hb.drew.j (hb'.ac hb.size)⟩
 case measure=>(simp;omega)
 ):=h
def oP(h:P:=by
 by_cases hi:i<fs.length
 .rw[List.getElem?_append_left hi]at hf;rw[List.getElem?_append_left (by omega)]at hx;exact H'.each i f' x hf hx
 have Y:i<(fs++[f]).length:=(List.getElem?_eq_some_iff.1 hf).1;simp at Y;obtain rfl:i=fs.length:=by omega
 rw[List.getElem?_append_right AA]at hf;rw[List.getElem?_append_right (by omega)]at hx;simp at hf;subst hf;rw[show fs.length-gs.length=0 by omega]at hx;simp at hx;subst hx;exact ho
 ):=h
def X3(h:P:=by
 go_roundw
 case rel=>
  refine⟨k+1,r',by omega,by go_num,rfl,by assumption,?_,hb.aj hb'⟩;rw[HZ.o];rcases ah with h|⟨_,h⟩<;>omega
 case measure=>simp[intOf];omega
 ):=h
def X0(h:P:=by have hB:Bw w w1:=Ax.aj O;exact(((((hB.setCell (by simp) _).setCell (by simp) _).setCell (by simp) _).setCell (by simp) _).setCell (by simp) _).setCell (by simp) _):=h
def Qv(h:P:=by go_wp2;go_ret;exact⟨AE (by rw[HG.o,List.drop_eq_nil_of_le (by omega)];rfl),hb⟩):=h
def o7(h:P:=by
 obtain⟨ak,HG2⟩:=Ak ah Y;have ar:=hown.lt;clear ah Y hI hown;go_wp2;clear af;go_roundw
 case rel=>exact⟨k+1,_,by omega,by go_num,ak.o,aj,(hb.alloc hb.size _).grown HG2.o (by have:=hb.size;simp;omega) (λj hj=>by cases hj;omega)⟩
 case measure=>(simp;omega)
 ):=h
def Ng(h:P:=by go_wp2;go_ret;exact⟨⟨-1,rfl,.inl rfl⟩,Aj⟩):=h
def Nf(h:P:=by go_ret;exact⟨⟨-1,rfl,.inl rfl⟩,hb.aj hb'⟩):=h
def Tk(h:P:=by show(w.heap.setIfInBounds b _)[b]?=_;rw[Array.getElem?_setIfInBounds_self_of_lt h.lt]):=h
def Ti(h:P:=by have:=(List.getElem?_eq_some_iff.1 hj).1;simp at this;exact this):=h
def Qu(h:P:=by rwa [show done++T::O=(done++[T])++O from by simp]at this):=h
def oZ(h:P:=by
 refine⟨h.own.lt,λx hx=>?_⟩;obtain⟨i,hi,rfl⟩:=List.getElem_of_mem hx;have hf:i<fs.length:=by rw[<-h.len];exact hi
 exact(h.each i fs[i] gs[i] (List.getElem?_eq_getElem hf) (List.getElem?_eq_getElem hi)).lt
 ):=h
def J4(h:P:=by go_wp2;go_ret;exact⟨rfl,hb⟩):=h
def oj(h:P:=by
 have hy:¬(L.length:Int)<(L.length:Int):=by omega
 go_wp2_with fail;go_end0;refine⟨rfl,⟨V',NR.o.same (λi y hy=>?_)⟩,FR.o⟩;have hi:=(List.getElem?_eq_some_iff.1 hy).1;simp[hi]
 ):=h
def nX(h:P:=by have:=congrArg (List.map Prod.fst) (show es.toList.map (λe=>(e.key,e.val))=L.map (λx=>(AU x.1,x.2)) from he);rw[List.map_map,List.map_map]at this;rw[List.map_map];exact this):=h
def nS(h:P:=by exact(((((hB.setCell (by simp;omega) _).setCell (by simp;omega) _).setCell (by simp;omega) _).setCell (by simp;omega) _).setCell (by simp;omega) _).setCell (by simp;omega) _):=h
def XI(h:P:=by intro v hv;obtain⟨i,hi,rfl⟩:=List.mem_map.1 hv;exact(hf i (List.mem_range.1 hi)).2):=h
def nN(h:P:=by have hl:=h.lt;refine⟨h.len,h.own.J hb (by omega),λi f x hf hx=>(h.each i f x hf hx).J hb ?_,h.gt,h.nodup⟩;have:=hl.2 x (List.mem_of_getElem? hx);omega):=h
def nL(h:P:=by have h1:IntKind.i64.min = -9223372036854775808:=rfl;have h2:IntKind.i64.max=9223372036854775807:=rfl;simp only[Lit.wf,h1,h2,Bool.and_eq_true,decide_eq_true_eq];omega):=h
def Td(h:P:=by simp only[List.map_nil,BV];exact List.flatMap_singleton' TT):=h
def Qr(h:P:=by rw[HG.o,List.drop_eq_nil_of_le (by omega)];rfl):=h
def oC(h:P:=by obtain⟨b,o,r,h1,h2,h3,h4,h5⟩:=h i x hi;subst h5;exact⟨b,o,h1,h2,h4 0 _ rfl,h4 1 _ rfl,h4 2 _ rfl,h4 3 _ rfl,h4 4 _ rfl,h4 5 _ rfl⟩):=h
def oB(h:P:=by
 by_cases h1:i<k
 .simp[h1,show i<k+1 by omega,show i≠k by omega]
 .by_cases h2:i=k
  .subst h2;simp
  simp[h1,h2,show¬i<k+1 by omega]
 ):=h
def XM(h:P:=by
 split at h
 .injection h with h;rw[<-h];exact⟨rfl,rfl⟩
 cases h
 ):=h
def nu(h:P:=by
 have:x∈gs++[h]:=List.mem_of_getElem? hx;rcases List.mem_append.1 this with hm|hm
 .have:=H.gt x hm;omega
 simp at hm;omega
 ):=h
def nr(h:P:=by intro k hk;rcases(show k=0∨k=1∨k=2∨k=3∨k=4∨k=5∨k=6 by omega) with rfl|rfl|rfl|rfl|rfl|rfl|rfl<;>rfl):=h
def Nd(h:P:=by go_ret;exact⟨rfl,rfl⟩):=h
def nh(h:P:=by rw[List.getElem?_map,List.getElem?_zip_eq_some (z:=(fs[i],gs[i]'(by rw[h.len];exact hi))) |>.2 ⟨hf,hg⟩];rfl):=h
def Nc(h:P:=by rw[IntKind.wrap_i64];omega):=h
def Tf(h:P:=by injection this with this;exact this.ai):=h
def nZ(h:P:=by rw[List.nodup_append];refine⟨H.nodup,by simp,λa ha b hb=>?_⟩;simp at hb;have:=hl.2 a ha;omega):=h
def oH(h:P:=by exact(((hB.setCell (by simp) _).setCell (by simp) _).setCell (by simp) _).setCell (by simp) _):=h
def nA(h:P:=by exact⟨none,0,[],rfl,λi v hv=>by simp at hv,Nat.zero_le _,λv hv=>by simp at hv⟩):=h
def my(h:P:=by
 rcases List.mem_append.1 hy with hy|hy
 .exact h.all y hy
 simp at hy;subst hy;exact hx
 ):=h
def mx(h:P:=by
 intro x hx;rcases List.mem_append.1 hx with hm|hm
 .exact H.gt x hm
 simp at hm;omega
 ):=h
def mw(h:P:=by go_wp2;go_ret;exact⟨E_ (by rw[HG.o,List.drop_eq_nil_of_le (by omega)];rfl),hb⟩):=h
def mr(h:P:=by have h1:=Fq (i:=0) O y0;exact h _ (by simpa using h1) (Turned.setCells [y0] 0 w b)):=h
def XG(h:P:=by
 go_wp2_with fail;go_ret;exact⟨rfl,B1.o⟩
 ):=h
def mZ(h:P:=by
 intro j v hj;have O:j=0:=by
  exact Ti
 subst O;simp at hj;subst hj;simpa using h0
 ):=h
def Ak{a b:Prop}(x0:a)(x1:b):Go.RowKit.Hid a/\Go.RowKit.Hid b:=⟨x0,x1⟩
def AQ{a b c:Prop}(x0:a)(x1:b)(d:c):Go.RowKit.Hid a/\Go.RowKit.Hid b/\Go.RowKit.Hid c:=⟨x0,x1,d⟩
def BE{b d c a:Prop}(x0:b)(x1:d)(e:c)(f:a):Go.RowKit.Hid b/\Go.RowKit.Hid d/\Go.RowKit.Hid c/\Go.RowKit.Hid a:=⟨x0,x1,e,f⟩
def DU{b e d a c:Prop}(x0:b)(x1:e)(f:d)(g:a)(i:c):Go.RowKit.Hid b/\Go.RowKit.Hid e/\Go.RowKit.Hid d/\Go.RowKit.Hid a/\Go.RowKit.Hid c:=⟨x0,x1,f,g,i⟩
def Hl{b f d a c e:Prop}(x0:b)(x1:f)(i:d)(j:a)(k:c)(g:e):Go.RowKit.Hid b/\Go.RowKit.Hid f/\Go.RowKit.Hid d/\Go.RowKit.Hid a/\Go.RowKit.Hid c/\Go.RowKit.Hid e:=⟨x0,x1,i,j,k,g⟩
def H5{b g e a d f c:Prop}(x0:b)(x1:g)(k:e)(l:a)(m:d)(j:f)(i:c):Go.RowKit.Hid b/\Go.RowKit.Hid g/\Go.RowKit.Hid e/\Go.RowKit.Hid a/\Go.RowKit.Hid d/\Go.RowKit.Hid f/\Go.RowKit.Hid c:=⟨x0,x1,k,l,m,j,i⟩
def NG{f d b a i c g e:Prop}(x0:f)(x1:d)(j:b)(k:a)(o:i)(n:c)(l:g)(m:e):Go.RowKit.Hid f/\Go.RowKit.Hid d/\Go.RowKit.Hid b/\Go.RowKit.Hid a/\Go.RowKit.Hid i/\Go.RowKit.Hid c/\Go.RowKit.Hid g/\Go.RowKit.Hid e:=⟨x0,x1,j,k,o,n,l,m⟩
def Ja{g e b a j d i f c:Prop}(x0:g)(x1:e)(l:b)(m:a)(q:j)(p:d)(n:i)(o:f)(k:c):Go.RowKit.Hid g/\Go.RowKit.Hid e/\Go.RowKit.Hid b/\Go.RowKit.Hid a/\Go.RowKit.Hid j/\Go.RowKit.Hid d/\Go.RowKit.Hid i/\Go.RowKit.Hid f/\Go.RowKit.Hid c:=⟨x0,x1,l,m,q,p,n,o,k⟩
def hdd{p:Prop}(h:p):Hid p:=h
end Go.Proofs.YtikojfajahnhgaaGreat
