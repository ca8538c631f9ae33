import Derived.Below
import Derived.WalkKit
import Derived.WalkSpells
import Derived.WalkLawsBesides
import Derived.Laws.IdiomCopy
import Derived.Deep.RegionHeld3
import Derived.Deep.DrawnRows
import Derived.Deep.Slices
import Derived.Deep.Strs
import Derived.Lib.SmallJoins
import Derived.Deep.MidRow
import Derived.Laws.CopyOwn
import Derived.Deep.RegionLaw
import Derived.Maps.AppendAt
import Derived.Laws.OwnMore
import Derived.BigQuiet
import Derived.Laws.BytesArg
import Derived.Laws.Strings
import Derived.LaidEql
import Derived.Maps.RangeRun
import Derived.MapKept
import Derived.Lib.Small
import Derived.RangeFuncFrom
import Derived.RangeFuncCalls
import Derived.OwnWalkIn
import Derived.OrdersHeld
import Derived.RangeFuncNested
import Derived.Lib.Bytealg
import Derived.Deep.DeepCutAuto
import Derived.Maps.RangeWalk
import Derived.Maps.OwnSet
import Derived.DeepKeys4
import Derived.Deep.Cut
import Derived.StringKeys
import Derived.Maps.Own
import Derived.Maps.Views
import Derived.Maps.Keyed
import Derived.Shelf.SlMaps.Clone
import Derived.Deep.CutBlock
import Derived.RangeFuncBound
import Derived.RangeFuncLeaves
import Derived.Shelf.Abstract
import Derived.TacticsInMore
import Derived.Deep.RegionWith
import Derived.Deep.QuietTactic
import Derived.Sort.OwnSortedInts
import Derived.ProofKit
import Derived.OpenShut
import Derived.ShutString
import Derived.ChangeOld
import Derived.Test.YtikojfajahnhgaaGreatRows
set_option linter.all false
namespace Go.Proofs.YtikojfajahnhgaaGreat
open Go.RowKit
abbrev Ca:=Calls Tryz.prog
def Cb{p:Prop}(h:p):Hid p:=h
end Go.Proofs.YtikojfajahnhgaaGreat
def Eq.c:=@Eq.trans
def Iff.c:=@Iff.trans
def List.Perm.c:=@List.Perm.trans
def Go.RowKit.Below.c:=@Go.RowKit.Below.trans
def Go.RowKit.Below.j:=@Go.RowKit.Below.mono
def Go.Calls.j:=@Go.Calls.mono
def Go.CallsIn.j:=@Go.CallsIn.mono
def Go.RoundIn.j:=@Go.RoundIn.mono
def Ne.z:=@Ne.symm
def Or.z:=@Or.symm
def List.Perm.z:=@List.Perm.symm
def Eq.z:=@Eq.symm
def Iff.z:=@Iff.symm
namespace Go.Proofs.YtikojfajahnhgaaGreat
open Go Go.RowKit
def yd:=@List.mem_of_getElem?
def yf:=@List.getElem?_eq_some_iff
def yg:=@Nat.lt_of_lt_of_le
def yh:=@List.mem_filter
def yi:=@Nat.le_trans
def yj:=@List.getElem?_toArray
def yk:=@Array.getElem?_eq_some_iff
def ym:=@Bool.and_eq_true
def yn:=@Nat.zero_le
def yp:=@List.mem_append
def yq:=@List.setIfInBounds_toArray
def yr:=@List.getElem?_append_left
def yu:=@List.length_map
def yv:=@List.mem_map
def yw:=@List.mem_singleton
def yx:=@List.map_cons
def yy:=@List.getElem?_cons_zero
def yz:=@List.map_append
def yA:=@Nat.le_refl
def yB:=@List.getElem?_append_right
def yC:=@List.getElem?_cons_succ
def yD:=@Below.heap_setCell
def yE:=@List.getElem?_map
def yF:=@List.set_cons_zero
def yG:=@List.set_cons_succ
def yH:=@List.drop_eq_nil_of_le
def yI:=@World.block_lt_of_cell?
def yJ:=@World.ownsRow_nil
def yK:=@List.getElem?_eq_getElem
def yL:=@List.nodup_append
def yM:=@List.length_append
def yN:=@Below.heap_alloc
def yO:=@List.append_nil
def yP:=@World.cell?_of_block
def yQ:=@List.filter_cons_of_pos
def yR:=@List.take_of_length_le
def yS:=@List.mem_map_of_mem
def yT:=@List.filter_cons_of_neg
def yV:=@List.filter_append
def yW:=@List.mem_cons
def yX:=@List.flatMap_cons
def yY:=@List.append_assoc
def yZ:=@List.take_length
def y8:=@Below.refl
def y9:=@AllReadyH.cons
def Ya:=@List.length_cons
def Yb:=@NoPanic.normal
def Yc:=@List.take_add_one
def Yd:=@AllReadyH.nil
def Ye:=@Option.map_eq_some_iff
def Yf:=@World.cell?_setCell_far
def Yg:=@List.nil_append
def Yh:=@IntKind.wrap_i64
def Yi:=@List.length_filter_le
def Yj:=@Nat.zero_add
def Yk:=@Int.eq_ofNat_of_zero_le
def Yl:=@List.map_map
def Ym:=@List.map_congr_left
def Yn:=@Array.getElem?_toList
def Yo:=@List.nodup_cons
def Yp:=@List.filter_eq_self
def Yq:=@List.mem_flatMap
def Yr:=@World.putObj_heap_other
def Yt:=@List.filter_sublist
def Yu:=@List.filter_nil
def Yv:=@List.cons.injEq
def Yw:=@List.not_mem_nil
def Yx:=@Bool.false_eq_true
def Yy:=@List.flatMap_append
def Yz:=@List.cons_append
def YA:=@List.pairwise_append
def YC:=@List.filter_filter
def YD:=@List.mem_append_right
def YE:=@Option.getD_some
def YF:=@Prod.mk.injEq
def YG:=@Int.toNat_natCast
def YH:=@List.ext_getElem?
def YI:=@Nat.mul_le_mul_right
def YJ:=@List.eq_nil_of_length_eq_zero
def YK:=@Bool.true_and
def YL:=@List.length_take
def YN:=@List.getElem?_eq_none
def YO:=@List.getElem?_set_ne
def YP:=@List.mem_cons_of_mem
def YQ:=@List.getElem?_of_mem
def YR:=@List.all_cons
def YS:=@List.filter_congr
def YT:=@Array.getElem?_modify
def YU:=@List.length_nil
def YV:=@List.filter_map
def YW:=@List.getElem?_take
def YX:=@List.getElem_mem
def YY:=@List.flatMap_nil
def YZ:=@List.map_nil
def Y0:=@Value.slice.injEq
def Y1:=@Option.some.injEq
def Y2:=@List.Perm.refl
def Y3:=@List.getElem?_set_self
def Y4:=@List.nodup_nil
def Y5:=@Calls.quiet_of_same
def Y6:=@Array.getElem?_setIfInBounds_ne
def Y7:=@List.all_eq_true
def Y8:=@Array.getElem?_setIfInBounds_self_of_lt
def Y9:=@List.eraseIdx_cons_succ
def Wa:=@ChangeMaps.map_eraseIdx
def Wb:=@List.length_eq_zero_iff
def Wc:=@List.pairwise_map
def Wd:=@List.getElem_of_mem
def We:=@List.take_succ_cons
def Wf:=@List.find?_cons_of_neg
def Wg:=@Nat.lt_or_ge
def Wh:=@Int.le_refl
def Wi:=@Bool.not_true
def Wj:=@Nat.add_sub_cancel
def Wk:=@List.take_zero
def Wl:=@World.ownsMap_made
def Wm:=@List.mem_cons_self
def Wn:=@List.perm_ext_iff_of_nodup
def Wp:=@Array.toList_eraseIdx
def Wq:=@List.eraseIdx_sublist
def Ws:=@Option.map_some
def Wt:=@List.getElem?_modify
def Wu:=@Addr.add_mid
def Wv:=@List.mem_of_mem_take
def Ww:=@List.mem_append_left
def Wx:=@Nat.mod_lt
def Wy:=@List.getElem?_take_of_lt
def Wz:=@Option.isSome_iff_exists
def WC:=@List.eq_of_mem_replicate
def WG:=@Array.toList_modify
def WH:=@List.drop_succ_cons
def WI:=@Bool.and_false
def WM:=@List.any_eq_true
def WN:=@World.size_alloc
def WO:=@List.pairwise_singleton
def WP:=@Nat.le_of_eq
def WQ:=@List.filter_eq_nil_iff
def WR:=@Nat.lt_irrefl
def WS:=@Bool.and_eq_false_iff
def WT:=@List.singleton_append
def WU:=@Ne.symm
def WV:=@List.drop_zero
def WW:=@Int.tmod_eq_emod_of_nonneg
def WX:=@List.drop_eq_getElem_cons
def WY:=@Array.getElem?_eq_getElem
def WZ:=@List.getLast?_eq_getElem?
def W0:=@Classical.byContradiction
def W6:=@ByteArray.toList_eq
def W7:=@Array.length_toList
def Ka:=@Array.toList_filter
def Kb:=@List.map_eq_nil_iff
def Kd:=@Nat.add_assoc
def Ke:=@Value.string.injEq
def Kf:=@List.pairwise_cons
def Kg:=@Nat.le_succ
def Kh:=@List.take_succ_eq_append_getElem
def Ki:=@Array.getElem?_eq_none
def Kj:=@Bool.not_eq_true'
def Kk:=@Result.andThen_ok
def Kl:=@Array.toList_push
def Km:=@Bool.false_and
def Kn:=@List.mapM_cons
def Ko:=@Nat.sub_self
def Kr:=@Bool.not_false
def Ks:=@List.Pairwise.map
def Ku:=@List.mem_iff_getElem?
def Kv:=@List.perm_append_comm
def Kw:=@List.countP_le_length
def Kx:=@Go.Sort.alloc_eq_grow
def Ky:=@List.getElem?_reverse
def Kz:=@Below.setCell
def KA:=@List.mapM_nil
def KB:=@Bool.and_self
def KC:=@List.take_append_of_le_length
def KD:=@List.getElem?_append
def KE:=@List.map_id
def KF:=@Nat.pow_le_pow_right
def KG:=@List.length_eraseIdx
def KH:=@Array.replicate_succ
def KI:=@Array.replicate_zero
def KJ:=@Array.getElem?_setIfInBounds
def KK:=@Value.int.injEq
def KM:=@Array.size_push
def KP:=@List.Perm.of_eq
def KQ:=@List.mem_zipIdx_iff_getElem?
def KS:=@Array.getElem?_push
def KT:=@List.append_toArray
def KU:=@Nat.succ_mul
def KV:=@Go.WideMaps.keyOf_string_mk
def KX:=@List.getElem?_drop
def KY:=@Nat.mul_le_mul
def KZ:=@List.find?_eq_none
def K2:=@List.getElem?_zip_eq_some
def K3:=@List.mem_of_find?_eq_some
def K5:=@List.getElem?_set
def K6:=@Nat.one_mul
def K7:=@List.size_toArray
def K8:=@List.push_toArray
def K9:=@List.sum_cons
def V_:=@Bool.and_true
def i8:=@Nat.lt_succ_self
def i7:=@List.drop_length
def i6:=@List.flatMap_map
def i5:=@Bool.not_eq_true
def V9:=@Sem.run_bind
def V8:=@Nat.zero_mul
def V7:=@Nat.le_of_lt
def iZ:=@List.all_append
def iY:=@Bool.or_eq_true
def iX:=@Oper.upon_value
def iW:=@Bool.eq_iff_iff
def V3:=@Below.trans
end Go.Proofs.YtikojfajahnhgaaGreat
namespace Go
def RowKit.Hid.o{p:Prop}(h:RowKit.Hid p):p:=h
def Shut.o{p:Prop}(h:Shut p):p:=h
end Go
attribute [local go_sem ↓] Go.wp_at_zero Go.wp_at_succ
namespace Go.Proofs.YtikojfajahnhgaaGreat
open Go.RowKit Go.Proofs.Tryz
variable{P:Prop}
abbrev AG:=List ByteArray
abbrev Gy:=List MapEntry
abbrev Bl:=Array Value
abbrev Af:=Option Addr
abbrev Aj:=List Value
abbrev AD:=Option Nat
abbrev As:=List Int
abbrev A5:=List Nat
abbrev Aa:=World
def qd(h:P:=by omega):=h
def qe(h:P:=by simp;omega):=h
def qf(h:P:=by simp):=h
def qg(h:P:=by kernel_rfl):=h
def qh(h:P:=by rfl):=h
def qi(h:P:=by decide):=h
def qj(h:P:=by unfold maxLen;omega):=h
def qk(h:P:=by assumption):=h
def ql(h:P:=by simp[go_sem]):=h
def qm(h:P:=by go_num):=h
def qo(h:P:=by cases e):=h
def qp(h:P:=by simp[intOf];omega):=h
def qq(h:P:=by intro x hx;rcases List.mem_append.1 hx with hx|hx;exact HV x hx;simp at hx;subst hx;exact⟨by decide,by decide,by decide⟩):=h
def qr(h:P:=by intro u hu;simp at hu;rcases hu with rfl|rfl|rfl|rfl;exact rfl;exact rfl;exact rfl;exact rfl):=h
def qt(h:P:=by rcases ht with rfl|rfl|rfl|rfl<;>decide):=h
def qu(h:P:=by simpa using h):=h
def qv(h:P:=by first|(simp;done)|(simp;omega)):=h
def qw(h:P:=by simpa using h2):=h
def qx(h:P:=by simpa using h1):=h
def qy(h:P:=by rcases ht with rfl|rfl|rfl|rfl|rfl|rfl<;>decide):=h
def qz(h:P:=by simpa using hd):=h
def qA(h:P:=by intro u hu;simp[Ef]at hu;rcases hu with rfl|rfl<;>rfl):=h
def qB(h:P:=by rcases ht with rfl|rfl<;>decide):=h
def qC(h:P:=by simp at ah⊢;omega):=h
def qD(h:P:=by first|rfl|simp):=h
def qE(h:P:=by rcases ht with rfl|rfl|rfl<;>decide):=h
def qF(h:P:=by simp at hx):=h
def qG(h:P:=by injection e' with e';rw[e'];exact hS):=h
def qH(h:P:=by have:=heap_alloc_new (w.alloc o1) O;simpa using this):=h
def qI(h:P:=by simp[World.frozen?,ai.o]):=h
def qJ(h:P:=by intro i o ho c hc;rcases i with _|_|_|_|_|_|_|i<;>simp at ho<;>subst ho<;>cases hc):=h
def qK(h:P:=by simpa using h0):=h
def qL(h:P:=by simp[Builtin.delete_,run_underlying hm,gM hb,Ou H,hf,sM hb]):=h
def qM(h:P:=by rw[(AU hb').2 _ _ (by simp)];simp[go_sem]):=h
def qN(h:P:=by have:=am.size;simp;omega):=h
def qO(h:P:=by injection e with e;omega):=h
def qP(h:P:=by intro u hu;simp at hu;subst hu;rfl):=h
def qQ(h:P:=by injection e' with e';exact e'.z):=h
def qR(h:P:=by simp[results,results60,asAddr,C6.load ai.o]):=h
def qS(h:P:=by simp[results,results195,go_sem,f0,f1,f2,f3,f4,f5,OD,GS]):=h
def qT(h:P:=by rw[show(R.l vw).map (λn=>(IA n).2)=R.xs.map (·.nb) from l7 hR.len];exact hR.cR):=h
def qU(h:P:=by intro x hx;rw[List.eq_of_mem_replicate hx];exact⟨by decide,by decide,by decide⟩):=h
def qV(h:P:=by have:=(HO.lt _ e).2;omega):=h
def qX(h:P:=by simpa using hz):=h
def qY(h:P:=by(match j,hj with|0,_=>simp[go_sem]|1,_=>simp[go_sem]|2,_=>simp[go_sem])):=h
def qZ(h:P:=by unfold Qy;rw[<-h];rfl):=h
def uh(h:P:=by(try dsimp only);exact⟨zab (a6.o _) m0,zab (a6.o _) m1,zab (a6.o _) m2⟩):=h
def Ql(h:P:=by simp[World.cell?,ah]):=h
def OI(h:P:=by unfold Sv;decide):=h
def OH(h:P:=by simp[C6.ai]at hf):=h
def Sh(h:P:=by rw[hU.o];simp[LQ,E.o]):=h
def Xy(h:P:=by rcases hb with hb|hb<;>exact hb):=h
def NB(h:P:=by simpa using hl):=h
def NA(h:P:=by simpa using hc):=h
def jY(h:P:=by simp[results,results34,go_sem,e0,e1,e2,e3,K_]):=h
def ug(h:P:=by simp only[leftOf,Array.toList_filter,List.mem_filter]at hz;exact hz.1):=h
def uf(h:P:=by rw[ar.o.cell (p:=⟨wr.heap.size,0,none⟩) (by simp;omega)];exact a6):=h
def JL(h:P:=by simp[k2]):=h
def JK(h:P:=by cases hf):=h
def ue(h:P:=by rw[G.o,O,e1,e2,e3,h1,h3,h4,decide_eq_true o1,decide_eq_true o2];rfl):=h
def Sg(h:P:=by simp;have:=HJ.o;omega):=h
def jX(h:P:=by simp[results,results157,asAddr,C6.load aq.o]):=h
def Xx(h:P:=by rcases hz with hz|hz<;>omega):=h
def jW(h:P:=by simp[results,results147,go_sem,f0,f1,f2,vV]):=h
def jV(h:P:=by simp[results,results62,asAddr,C6.load ao.o]):=h
def ud(h:P:=by rw[e];exact List.mem_map.2 ⟨(x,v),List.mem_of_getElem? h,rfl⟩):=h
def Xw(h:P:=by injection e with e;exact e.z):=h
def Sf(h:P:=by simp[World.cell?,ai]):=h
def Xv(h:P:=by injection O with O;exact O.z):=h
def uc(h:P:=by(try dsimp only);exact bS.o _ (Turned.setCells [_,_,_,_] 0 w7 _)):=h
def Se(h:P:=by simp[Value.ownBlock]):=h
def MT(h:P:=by injection e):=h
def un(h:P:=by have:=heap_alloc_new ((w.alloc o1).alloc O) o3;simpa using this):=h
def OM(h:P:=by simpa using h3):=h
def OL(h:P:=by decide +kernel):=h
def OK(h:P:=by simpa using ht):=h
def Ij(h:P:=by rw[e]):=h
def Si(h:P:=by have:=am.size;omega):=h
def j5(h:P:=by simp[results,results45,go_sem,C6.val, *]):=h
def Qn(h:P:=by simpa using hlen):=h
def j4(h:P:=by simp[results,results114,go_sem,Iv, *]):=h
def OJ(h:P:=by simpa using O):=h
def LE(h:P:=by simp[hd]):=h
def LD(h:P:=by simp[k4]):=h
def um(h:P:=by(try dsimp only);exact⟨zab af x0,zab af x1,zab af x2⟩):=h
def Uc(h:P:=by simp[World.frozen?,q8]):=h
def XA(h:P:=by rintro⟨_,_,hh⟩;exact hh):=h
def ul(h:P:=by rw[HR.o,HL.o,decide_eq_true (p:=l.tag<nx) (by omega)];rfl):=h
def uk(h:P:=by rw[List.mem_singleton.1 h'];exact⟨w1,w2,w3,w4,w5,w6⟩):=h
def Ub(h:P:=by simp[World.frozen?,O]):=h
def uj(h:P:=by intro u hu;rw[List.mem_singleton]at hu;rw[hu];exact ax):=h
def Qm(h:P:=by simpa using ho):=h
def Xz(h:P:=by simp[World.frozen?,af.o.1]):=h
def LV(h:P:=by simp[hk]):=h
def Ua(h:P:=by simp[Value.oneCell']):=h
def T_(h:P:=by simp[World.cell?,af]):=h
def ui(h:P:=by rw[aj];first|exact(Int.ofNat_tmod _ _).z|rfl):=h
def jZ(h:P:=by rw[aF.o,List.map_append,aD.o,aw.o]):=h
def jT(h:P:=by rw[<-List.append_assoc];exact ax):=h
def Xr(h:P:=by have:=ai.size;simp;omega):=h
def ub(h:P:=by first|decide|(dsimp only;decide)|(simp;done)):=h
def Xq(h:P:=by simp[World.cell?,ar.o.1]):=h
def Xp(h:P:=by simp[World.cell?,af.o.1]):=h
def Xo(h:P:=by cases e;revert hn;decide):=h
def Sb(h:P:=by rw[hi];exact hf):=h
def MS(h:P:=by simp[hl]):=h
def ua(h:P:=by simp[results,results157,go_sem,af,C6.val,C6.ai]):=h
def u_(h:P:=by simp[results,results60,go_sem,af,C6.val,C6.ai]):=h
def Xn(h:P:=by first|decide|omega):=h
def Sa(h:P:=by simpa using af):=h
def u9(h:P:=by have:=HLK _ _ _ aE aJ;rw[hi]at this;exact this):=h
def jS(h:P:=by rw[h.len];exact Nat.le_refl _):=h
def Xm(h:P:=by simp[Fence.wide]at hx):=h
def Nz(h:P:=by simp[k3]):=h
def Ny(h:P:=by simp[hy]):=h
def jR(h:P:=by rw[zgc fs xs h.len];exact ho):=h
def Nx(h:P:=by simp[hV]):=h
def Xl(h:P:=by simp[World.cell?,h1]):=h
def OE(h:P:=by simp[XG]):=h
def Xk(h:P:=by simp[World.cell?,aj]):=h
def Qh(h:P:=by simp at hf):=h
def jQ(h:P:=by injection hg with hg;omega):=h
def R_(h:P:=by simp[BG,hz]):=h
def TW(h:P:=by simpa using hj):=h
def T9(h:P:=by simpa using hk):=h
def T8(h:P:=by simpa using hi):=h
def T5(h:P:=by simpa using k2):=h
def T0(h:P:=by simpa using hy):=h
def OG(h:P:=by rw[HN.o]):=h
def Xu(h:P:=by rw[HL.o];exact X9):=h
def Xt(h:P:=by rw[h.len];exact hi):=h
def TZ(h:P:=by simpa using he):=h
def jU(h:P:=by have:=h.rest.size;omega):=h
def Sc(h:P:=by simp[aC.o]):=h
def Xs(h:P:=by simpa using ao.o):=h
def TX(h:P:=by rw[h];decide):=h
def Qk(h:P:=by simp[O]):=h
def Qj(h:P:=by cases q):=h
def tu(h:P:=by
 go_wp2
 go_loopw [3,9] (λl i wr=>∃(k:Nat),k<=x.x.length/\i=I6 k/\l=I6 (Ag (x.x.take k):Int)/\Bw w wr) (λ_ i _=>x.x.length-(intOf i).toNat)
 .exact⟨0,by omega,rfl,by simp[Ag],Ar⟩
 obtain⟨k,hk,rfl,rfl,hb⟩:=hrel;have hp:Ag (x.x.take k)<=x.x.length:=Nat.le_trans List.countP_le_length (by simp;omega);by_cases ai:k<x.x.length
 .obtain⟨p,af⟩:=Bq ai;obtain⟨b,o,a_terms,c_terms,rfl,hq,c0,c1,c2,ah⟩:=(O.e hb).get af;have HT:Hid (x.x.take (k+1)=x.x.take k++[p]):=OA _ _ _ af;have B1:∀o,Bw w (wr.alloc o):=λo=>hb.alloc hb.size _;cases hn:p.neg
  all_goals
   rw[hn]at c0;go_wp2;exact⟨⟨k+1,by omega,by go_num,by rw[HT.o];simp[Ag,La,hn],B1 _⟩,by simp[intOf];omega⟩
 go_wp2;go_ret;rw[List.take_of_length_le (by omega)];exact⟨rfl,hb⟩
 ):=h
def tr(h:P:=by
 refine sJ N7 ?_;intro w8 hN8 ht8;have hR:=NF.push (QQ:=λi=>if i<k then Q++[(.pointer (some ⟨fb,fo,none⟩),f)] else Q) (p:=.pointer (some ⟨fb,fo,none⟩)) (f:=f) (fa:=a7) (fc:=c7) N3.o HX.o ak.o ai.o HM.o aj (by simpa using ho7.o) hg7.o (by simpa using hl7.o) (by simpa using hN8) ht8;have HR:=Ad hR;go_wp2;go_roundw
 case rel=>
  refine⟨k+1,_,by go_num,by omega,HR.1.same (λi y hy=>?_),F3.c HR.2⟩;by_cases h1:i<k
  .simp[h1,show i<k+1 by omega,show i≠k by omega]
  .by_cases h2:i=k
   .subst h2;simp
   .simp[h1,h2,show¬i<k+1 by omega]
 case measure=>(simp;omega)
 ):=h
def tj(h:P:=by
 have HM:=Ad hm;rw[hm]at HP;go_wp2_with fail;refine HP.rtn λw3 O=>?_;obtain⟨N3,F3⟩:=An (NR.C O) (FR.c (EB.u O (by omega)));go_wp2;go_roundw
 case rel=>
  refine⟨k+1,V',by go_num,by omega,N3.same (λi y hy=>?_),F3⟩;by_cases h1:i<k
  .simp[h1,show i<k+1 by omega]
  .by_cases h2:i=k
   .subst h2;rw[HX.o]at hy;cases hy;simp[zhr HM.o]
   .simp[h1,show¬i<k+1 by omega]
 case measure=>(simp;omega)
 ):=h
def ix(h:P:=by
 have hy:¬(L.length:Int)<(L.length:Int):=by omega
 go_wp2_with fail;go_end0;refine⟨rfl,⟨V',NR.same (λi y hy=>?_)⟩,FR⟩;have hi:=(List.getElem?_eq_some_iff.1 hy).1;simp[hi]
 ):=h
def TQ(h:P:=by go_wp2;go_ret;exact⟨Ba (by rw[HG.o,List.drop_eq_nil_of_le (by omega)];rfl),hb⟩):=h
def Xh(h:P:=by show(w.heap.setIfInBounds b _)[b]?=_;rw[Array.getElem?_setIfInBounds_self_of_lt h.lt]):=h
def P_(h:P:=by rw[show((j-1:Nat):Int)=(j:Int)-1 by omega]):=h
def uI(h:P:=by obtain⟨ak,HG2⟩:=An ai ah;have aq:=hown.lt;go_wp2;go_roundw;exact⟨k+1,_,by omega,by go_num,ak,am,(hb.alloc hb.size _).grown HG2 (by have:=hb.size;simp;omega) (λj hj=>by cases hj;omega)⟩;simp;omega):=h
def uE(h:P:=by
 have h1:(s.toList==(⟨#[]⟩:ByteArray).toList)=true:=by
  have:s.toList=[]:=by simpa using h
  rw[this,show(⟨#[]⟩:ByteArray).toList=[] by decide +kernel];rfl
 rw[Gu]at h1;simpa using h1
 ):=h
def uC(h:P:=by have:=congrArg (List.map Prod.fst) (show es.toList.map (λe=>(e.key,e.val))=L.map (λx=>(Bh x.1,x.2)) from he);rw[List.map_map,List.map_map]at this;rw[List.map_map];exact this):=h
def jL(h:P:=by have:=(List.getElem?_eq_some_iff.1 hj).1;simp at this;exact this):=h
def uX(h:P:=by exact(((((hB.setCell (by simp;omega) _).setCell (by simp;omega) _).setCell (by simp;omega) _).setCell (by simp;omega) _).setCell (by simp;omega) _).setCell (by simp;omega) _):=h
def uT(h:P:=by have h1:IntKind.i64.min = -9223372036854775808:=rfl;have h2:IntKind.i64.max=9223372036854775807:=rfl;simp only[Lit.wf,h1,h2,Bool.and_eq_true,decide_eq_true_eq];omega):=h
def TM(h:P:=by rw[HG.o,List.drop_eq_nil_of_le (by omega)];rfl):=h
def sw(h:P:=by obtain⟨b,o,r,h1,h2,h3,h4,h5⟩:=h i x hi;subst h5;exact⟨b,o,h1,h2,h4 0 _ rfl,h4 1 _ rfl,h4 2 _ rfl,h4 3 _ rfl,h4 4 _ rfl,h4 5 _ rfl⟩):=h
def su(h:P:=by
 unfold El DA;by_cases h3:t.w=3
 .have:t.F.toList.isEmpty=true:=by cases h:t.F.toList.isEmpty<;>simp_all
  simp[this]
 simp[h3]
 ):=h
def RZ(h:P:=by go_wp2;go_ret;exact⟨rfl,rfl⟩):=h
def ig(h:P:=by simp only[List.map_nil,DD];exact List.flatMap_singleton' TT):=h
def TL(h:P:=by exact⟨0,by omega,rfl,rfl,Au⟩):=h
def tN(h:P:=by exact(((hB.setCell (by simp) _).setCell (by simp) _).setCell (by simp) _).setCell (by simp) _):=h
def tJ(h:P:=by go_wp2;go_ret;exact⟨GT (by rw[HN.o,HG.o,List.drop_eq_nil_of_le (by omega)];rfl),hb⟩):=h
def tI(h:P:=by
 rcases List.mem_append.1 hy with hy|hy
 .exact h.all y hy
 simp at hy;subst hy;exact hx
 ):=h
def tH(h:P:=by go_wp2;go_ret;exact⟨GT (by rw[HG.o,List.drop_eq_nil_of_le (by omega)];rfl),hb⟩):=h
def tG(h:P:=by
 rcases List.mem_append.1 hy with hy|hy
 .exact h.2 y hy
 simp at hy;exact hy▸hx
 ):=h
def tE(h:P:=by have h1:=C7 (i:=0) h0 O;exact h _ (by simpa using h1) (Turned.setCells [O] 0 w b)):=h
def im(h:P:=by rcases hv with rfl|rfl|rfl|rfl<;>rfl):=h
def ti(h:P:=by
 by_cases hj:j=0
 .subst hj;simpa[Addr.add] using hc
 simpa[Addr.add,hj] using hc
 ):=h
def t_(h:P:=by exact⟨0,V,rfl,Nat.zero_le _,HN.same (λi x _=>by simp),EB.refl _ _⟩):=h
def sX(h:P:=by
 intro j v hj;have O:j=0:=by
  exact jL
 subst O;simp at hj;subst hj;simpa using h0
 ):=h
def An{a b:Prop}(x0:a)(x1:b):Go.RowKit.Hid a/\Go.RowKit.Hid b:=⟨x0,x1⟩
def AK{b c a:Prop}(x0:b)(x1:c)(d:a):Go.RowKit.Hid b/\Go.RowKit.Hid c/\Go.RowKit.Hid a:=⟨x0,x1,d⟩
def BP{c d b a:Prop}(x0:c)(x1:d)(e:b)(f:a):Go.RowKit.Hid c/\Go.RowKit.Hid d/\Go.RowKit.Hid b/\Go.RowKit.Hid a:=⟨x0,x1,e,f⟩
def Ei{c d b a e:Prop}(x0:c)(x1:d)(f:b)(g:a)(i:e):Go.RowKit.Hid c/\Go.RowKit.Hid d/\Go.RowKit.Hid b/\Go.RowKit.Hid a/\Go.RowKit.Hid e:=⟨x0,x1,f,g,i⟩
def Ma{d e c a f b:Prop}(x0:d)(x1:e)(g:c)(j:a)(k:f)(i:b):Go.RowKit.Hid d/\Go.RowKit.Hid e/\Go.RowKit.Hid c/\Go.RowKit.Hid a/\Go.RowKit.Hid f/\Go.RowKit.Hid b:=⟨x0,x1,g,j,k,i⟩
def LG{d e c a g b f:Prop}(x0:d)(x1:e)(i:c)(l:a)(m:g)(j:b)(k:f):Go.RowKit.Hid d/\Go.RowKit.Hid e/\Go.RowKit.Hid c/\Go.RowKit.Hid a/\Go.RowKit.Hid g/\Go.RowKit.Hid b/\Go.RowKit.Hid f:=⟨x0,x1,i,l,m,j,k⟩
def XD{d c g b a f i e:Prop}(x0:d)(x1:c)(o:g)(j:b)(n:a)(l:f)(m:i)(k:e):Go.RowKit.Hid d/\Go.RowKit.Hid c/\Go.RowKit.Hid g/\Go.RowKit.Hid b/\Go.RowKit.Hid a/\Go.RowKit.Hid f/\Go.RowKit.Hid i/\Go.RowKit.Hid e:=⟨x0,x1,o,j,n,l,m,k⟩
def L_{d c i b a g j f e:Prop}(x0:d)(x1:c)(q:i)(k:b)(p:a)(n:g)(o:j)(l:f)(m:e):Go.RowKit.Hid d/\Go.RowKit.Hid c/\Go.RowKit.Hid i/\Go.RowKit.Hid b/\Go.RowKit.Hid a/\Go.RowKit.Hid g/\Go.RowKit.Hid j/\Go.RowKit.Hid f/\Go.RowKit.Hid e:=⟨x0,x1,q,k,p,n,o,l,m⟩
def hdd{p:Prop}(h:p):Hid p:=h
end Go.Proofs.YtikojfajahnhgaaGreat
