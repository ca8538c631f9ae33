import Derived.Test.YtikojfajahnhgaaGreatKaf
set_option linter.all false
namespace Go.Proofs.YtikojfajahnhgaaGreat
attribute [local simp] At I6 Pn mzI
attribute [local go_sem] At I6 Pn
open Go.RowKit Go.Proofs.Tryz
attribute [local go_sem ↓] wp_at_zero wp_at_succ
def Qw(w:World)(o O Y):(((w.alloc o).alloc O).alloc Y).drew.heap.size=w.heap.size+3:=qe
set_option maxHeartbeats 3200000 in
def zoV(e a c)(S:List Sp)(w)(l:e.le maxLen)(t:e.kind=0) :
  Ca 250 #[.agg #[I6 e.kind,.int .u8 e.op,.string e.var,I6 e.val.kind,I6 e.val.num,.string e.val.av,I6 e.a,I6 e.b],.slice a S.length c] w λr w'=>
   r=.returned (.tuple #[.agg #[I6 (S.length:Int),I6 0],.bool (CQ e&&(BT e.var&&Bu e.val))])/\Bw w w':=by
 obtain⟨p,Y⟩:=l;by_cases g:e.op=0
 .by_cases i:e.var.toList=[]
  .by_cases f:e.a=0
   .by_cases d:e.b=0
    .have n:Hid ((CQ e&&(BT e.var&&Bu e.val))=Bu e.val):=show(CQ e&&(BT e.var&&Bu e.val))=Bu e.val from by simp[CQ,BT,g,f,d,i]
     go_enter func250,ntmps250;go_wp2
     first
     |(go_region_law (first|(go_simp;go_at_call 256;refine(ST e.val _ Y).ac ?_;rintro q w' ⟨rfl,hb'⟩;have O:Bw w w':=Ba.drew.j (hb'.ac (by rw[Qw];omega));have k:At w' (w.heap.size+1) 0 (I6 0):=zab hb' qk;have m:At w' (w.heap.size+1) 1 (I6 0):=zab hb' qk;have y:At w' (w.heap.size+1+1) 0 (I6 (S.length:Int)):=zab hb' qk;have x:At w' (w.heap.size+1+1) 1 (I6 0):=zab hb' qk;have u:w'.frozen? ⟨w.heap.size+1,0,none⟩=false:=qG;have s:w'.frozen? ⟨w.heap.size+1,1,none⟩=false:=qG)))
     |fail
     all_goals go_wp2
     all_goals refine bodyPost_ret (v:=.tuple #[.agg #[I6 (S.length:Int),I6 0],.bool (Bu e.val)]) (by simp[results,results250,go_sem,k,m]) rfl ⟨?_,?_⟩
     all_goals first|(rw[n.o];done)|exact(O.setCell qe _).setCell qe _|(trace_state;fail)
    have HN:Hid ((CQ e&&(BT e.var&&Bu e.val))=false):=show(CQ e&&(BT e.var&&Bu e.val))=false from by simp[CQ,d]
    exact J1
   have HN:Hid ((CQ e&&(BT e.var&&Bu e.val))=false):=show(CQ e&&(BT e.var&&Bu e.val))=false from by simp[CQ,f]
   exact J1
  have HN:Hid ((CQ e&&(BT e.var&&Bu e.val))=false):=show(CQ e&&(BT e.var&&Bu e.val))=false from by simp[BT,i]
  exact J1
 have HN:Hid ((CQ e&&(BT e.var&&Bu e.val))=false):=show(CQ e&&(BT e.var&&Bu e.val))=false from by simp[CQ,g]
 exact J1
end Go.Proofs.YtikojfajahnhgaaGreat
