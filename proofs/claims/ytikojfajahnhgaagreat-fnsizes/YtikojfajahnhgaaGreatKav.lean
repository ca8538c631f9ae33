import Derived.Test.YtikojfajahnhgaaGreatKat
set_option linter.all false
namespace Go.Proofs.YtikojfajahnhgaaGreat
attribute [local simp] At I6 Pn mzI
attribute [local go_sem] At I6 Pn
open Go.RowKit Go.Proofs.Tryz
attribute [local go_sem ↓] wp_at_zero wp_at_succ
def QS(w:World)(o a O):(((w.alloc o).alloc a).alloc O).drew.heap.size=w.heap.size+3:=qe
set_option maxHeartbeats 3200000 in
def zoE(e a c)(S:List Sp)(w)(p:e.le maxLen)(s:e.u=0) :
  Ca 250 #[.agg #[I6 e.u,.int .u8 e.op,.string e.A,I6 e.val.u,I6 e.val.num,.string e.val.J,I6 e.a,I6 e.b],.slice a S.length c] w λr w'=>
   r=.returned (.tuple #[.agg #[I6 (S.length:Int),I6 0],.bool (CM e&&(BG e.A&&Bf e.val))])/\Bw w w':=by
 obtain⟨l,n⟩:=p;by_cases i:e.op=0
 .by_cases d:e.A.toList=[]
  .by_cases g:e.a=0
   .by_cases f:e.b=0
    .have m:Hid ((CM e&&(BG e.A&&Bf e.val))=Bf e.val):=show(CM e&&(BG e.A&&Bf e.val))=Bf e.val from by simp[CM,BG,i,g,f,d]
     go_enter func250,ntmps250;go_wp2
     first
     |(go_region_law (first|(go_simp;go_at_call 256;refine(Tq e.val _ n).j ?_;rintro t w' ⟨rfl,hb'⟩;have O:Bw w w':=Bj.drew.c (hb'.j (by rw[QS];omega));have q:At w' (w.heap.size+1) 0 (I6 0):=zab hb' ql;have k:At w' (w.heap.size+1) 1 (I6 0):=zab hb' ql;have x:At w' (w.heap.size+1+1) 0 (I6 (S.length:Int)):=zab hb' ql;have z:At w' (w.heap.size+1+1) 1 (I6 0):=zab hb' ql;have y:w'.frozen? ⟨w.heap.size+1,0,none⟩=false:=qJ;have B:w'.frozen? ⟨w.heap.size+1,1,none⟩=false:=qJ)))
     |fail
     all_goals go_wp2
     all_goals refine bodyPost_ret (v:=.tuple #[.agg #[I6 (S.length:Int),I6 0],.bool (Bf e.val)]) (by simp[results,results250,go_sem,q,k]) rfl ⟨?_,?_⟩
     all_goals first|(rw[m.o];done)|exact(O.setCell qe _).setCell qe _|(trace_state;fail)
    have HN:Hid ((CM e&&(BG e.A&&Bf e.val))=false):=show(CM e&&(BG e.A&&Bf e.val))=false from by simp[CM,f]
    exact JV
   have HN:Hid ((CM e&&(BG e.A&&Bf e.val))=false):=show(CM e&&(BG e.A&&Bf e.val))=false from by simp[CM,g]
   exact JV
  have HN:Hid ((CM e&&(BG e.A&&Bf e.val))=false):=show(CM e&&(BG e.A&&Bf e.val))=false from by simp[BG,d]
  exact JV
 have HN:Hid ((CM e&&(BG e.A&&Bf e.val))=false):=show(CM e&&(BG e.A&&Bf e.val))=false from by simp[CM,i]
 exact JV
end Go.Proofs.YtikojfajahnhgaaGreat
