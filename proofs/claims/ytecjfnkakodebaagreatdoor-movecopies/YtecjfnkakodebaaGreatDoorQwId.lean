/-Equal: maps.EqualFunc. -/
import Derived.Test.YtecjfnkakodebaaGreatDoorQwQu
import Derived.Test.YtecjfnkakodebaaGreatDoorQwJm
set_option maxRecDepth 20000
set_option maxHeartbeats 16000000
namespace Go.Proofs.YtecjfnkakodebaaGreatDoor
open Go.RowKit Go.Maps
def EqC (L M:List Cc):Prop:=L.length=M.length/\∀k a,(k,a)∈L->∃b,(k,b)∈M/\csame a b=true
noncomputable def eqC (L M:List Cc):Bool:=@decide (EqC L M) (Classical.propDecidable _)
theorem eqC_true {L M:List Cc} (h:EqC L M):eqC L M=true:=@decide_eq_true _ (Classical.propDecidable _) h
theorem eqC_false {L M:List Cc} (h:¬EqC L M):eqC L M=false:=@decide_eq_false _ (Classical.propDecidable _) h
theorem once_eq:∀ {L:List Cc},L.Pairwise (fun x y=>x.1≠y.1)->∀ {k:Int×Int} {a b:Ct},(k,a)∈L->(k,b)∈L->a=b
 | [],_,_,_,_,h,_=>by simp at h
 | x::L,hp,k,a,b,ha,hb=>by
  rw[List.pairwise_cons] at hp
  rcases List.mem_cons.1 ha with ha|ha <;> rcases List.mem_cons.1 hb with hb|hb
  ·rw[<- ha] at hb;exact(congrArg Prod.snd hb).symm
  ·exact absurd (congrArg Prod.fst ha).symm (hp.1 (k,b) hb)
  ·exact absurd (congrArg Prod.fst hb).symm (hp.1 (k,a) ha)
  ·exact once_eq hp.2 ha hb
def OkC (L:List Cc):Prop:=∀x∈L,x.2.v.x<18446744073709551616/\x.2.t.ok
theorem infoAddr2:(Tryz.prog.info? 32).map (·.size)=some 2:=by kernel_rfl
section
variable {ops:Array Oper} {C:World->Prop} {Q:Act->Prop} {o:Oper} {rest:List Oper} {a:Act}
theorem quiet_run (d:Option Tmp) (hd:o.dst=d) (v:Value) (hw:Region.wanted o (yielded ops a.tmps)=true) (hr:∀w,C w->(execOp a.eval o).run Tryz.prog w=.ok (.value v) w)
  (h:wpQuiet Tryz.prog ops C Q rest (a.put d v)):wpQuiet Tryz.prog ops C Q (o::rest) a:=by
 subst hd
 refine wpQuiet_step fun K hK=>?_
 simp only[hw,if_true]
 refine⟨v,fun w hC=>?_,hK _ h⟩
 unfold Oper.quietAt
 rw[hr w hC]
 exact⟨rfl,rfl⟩
theorem quiet_call (d:Option Tmp) (hd:o.dst=d) (f:FuncId) (args:Array Value) (v:Value) (hw:Region.wanted o (yielded ops a.tmps)=true) (hr:∀w,(execOp a.eval o).run Tryz.prog w=.ok (.enter f args) w) (hc:∀w,C w->Calls Tryz.prog f args w fun e w'=>e=.returned v/\C w')
  (h:wpQuiet Tryz.prog ops C Q rest (a.put d v)):wpQuiet Tryz.prog ops C Q (o::rest) a:=by
 subst hd
 refine wpQuiet_step fun K hK=>?_
 simp only[hw,if_true]
 refine⟨v,fun w hC=>?_,hK _ h⟩
 unfold Oper.quietAt
 rw[hr w]
 exact⟨rfl,hc w hC⟩
theorem wp_region_nul {id:Nat} {Q:Exit->Act->World->Prop} {a:Act} {W w:World} {l:List Oper} (hw:Kp W w Nul) (hm:Tryz.prog.follows .mixedOrders=true) (hB:Region.lexB .any l.toArray=true)
  (h:wpQuiet Tryz.prog l.toArray (fun w'=>Kp W w' Nul) (fun a'=>∀w',Kp W w' Nul->Q .normal a' w') l a):(Code.region id l.toArray true).wp Tryz.prog Q a w:=
 wp_region_quiet (C:=fun w'=>Kp W w' Nul) hm hB hw.drew (by simpa using h)
end
theorem lk_kp {w wq:World} {g:Nat} {c s:Int} {mv:Option Nat} {v:Value} {b:Bool} (h:Lk w g c s mv v b) (k:Kp w wq Nul):Lk wq g c s mv v b:=
 ⟨(k.block g (Array.getElem?_eq_some_iff.1 h.cell).1 (fun x=>x)).trans h.cell,fun m hm=>⟨(h.ne m hm).1,Nat.lt_of_lt_of_le (h.ne m hm).2 k.size⟩,fun w' hw'=>h.two w' (fun m hm=>(hw' m hm).trans (k.block m (h.ne m hm).2 (fun x=>x))),fun w' hw'=>h.one w' (fun m hm=>(hw' m hm).trans (k.block m (h.ne m hm).2 (fun x=>x)))⟩
theorem equalF_at (g o:Nat) (L M:List Cc) (mv1 mv2:Option Nat) (w:World) (hg:GI 0 w g L) (ho:GI 0 w o M) (b1:Blk w g [.map mv1] 96) (b2:Blk w o [.map mv2] 96) (okL:OkC L) (okM:OkC M) :
  Calls Tryz.prog 61 #[.map mv1,.map mv2,.func (.func 21) #[] #[]] w fun e w'=>e=.returned (.bool (eqC L M))/\Kp w w' Nul:=by
 obtain⟨mv1',b1',hl1⟩:=gi_len hg
 obtain⟨mv2',b2',hl2⟩:=gi_len ho
 have e1:mv1'=mv1:=by have q:=b1'.symm.trans b1;simpa using q
 have e2:mv2'=mv2:=by have q:=b2'.symm.trans b2;simpa using q
 subst e1 e2
 have l1:∀ty,(Builtin.len_ #[94] ty #[.map mv1']).run Tryz.prog w=.ok (.int .i64 L.length) w:=hl1 w (Kp.refl _ _)
 have l2:∀ty,(Builtin.len_ #[94] ty #[.map mv2']).run Tryz.prog w=.ok (.int .i64 M.length) w:=hl2 w (Kp.refl _ _)
 by_cases hn:L.length=M.length
 rotate_left
 ·have nn:((L.length:Int)==(M.length:Int))=false:=by simp;omega
  have HE:Hid (eqC L M=false):=eqC_false fun h=>hn h.1
  generalize eqC L M=V at *
  clear hl1 hl2 hg ho b1 b2 b1' b2' okL okM
  go_enter Tryz.func61,Tryz.ntmps61
  go_wp2_with fail
  go_ret
  exact⟨rBool HE.out.symm,Kp.refl _ _⟩
 have HN:Hid (L.length=M.length):=hn
 have HG:Hid (GI 0 w g L):=hg
 have HO:Hid (GI 0 w o M):=ho
 have HB1:Hid (Blk w g [.map mv1'] 96):=b1
 have HOL:Hid (OkC L):=okL
 have HOM:Hid (OkC M):=okM
 have HLK:Hid (∀c s,I64 c->I64 s->∃v b,Lk w o c s mv2' v b/\((b=true/\∃ct sl,((c,s),ct)∈M/\v=ct.val sl/\NdIn w (fun b=>0<=b) sl ct.t)∨(b=false/\v=zCv/\∀ct,((c,s),ct)∉M))):=fun c s hc hs=>by
  obtain⟨mv,v,b,q1,q2⟩:=lk_of ho hc hs
  have e:mv=mv2':=by
   have q:=q1.cell.symm.trans b2
   simpa using q
  subst e
  exact⟨v,b,q1,q2⟩
 rw[hn] at l1
 have HRI:Hid (∀x∈L,I64 x.1.1/\I64 x.1.2):=by
  obtain⟨_,⟨_,rfl⟩|⟨m,D,_,_,_,_,hm⟩⟩:=hg
  ·intro x hx;simp at hx
  ·exact hm.rng
 clear hl1 hl2 hg ho b1 b2 b1' b2' okL okM hn
 go_enter Tryz.func61,Tryz.ntmps61
 go_wp2_with (first
  | (at_range;refine wpList_range_grid _ rfl _ rfl g L mv1' w.heap.size rfl HG.out.low HB1.out ?_;intro w0 hrg0 hg0 hs0)
  | fail)
 have HStart:Hid (GRg w0 w.heap.size mv1' w.heap.size L/\Kp w w0 Nul):=⟨hrg0,Kp.of_grown hg0 (fun i e=>by cases e)⟩
 clear hrg0 hg0 hs0 l1 l2
 go_frame
 go_loopw[] (fun wr=>∃rem,GRg wr w.heap.size mv1' w.heap.size rem/\Kp w wr Nul/\(∀x,x∈rem->x∈L)/\(∀k a,(k,a)∈L->(k,a)∉rem->∃b,(k,b)∈M/\csame a b=true)) (fun wr=>glen wr mv1' w.heap.size)
 case atStart=>exact⟨L,HStart.out.1,HStart.out.2,fun x h=>h,fun k a h1 h2=>absurd h1 h2⟩
 case round=>
  clear HStart
  obtain⟨rem,hrg,hkp,hsub,hdone⟩:=hrel
  have HRG:Hid (GRg wr w.heap.size mv1' w.heap.size rem):=hrg
  have HKP:Hid (Kp w wr Nul):=hkp
  have HSUB:Hid (∀x,x∈rem->x∈L):=hsub
  have HDN:Hid (∀k a,(k,a)∈L->(k,a)∉rem->∃b,(k,b)∈M/\csame a b=true):=hdone
  clear hrg hkp hsub hdone
  go_wp2_with (first
   | (at_next;refine wpList_next_grid _ rfl _ rfl w.heap.size mv1' w.heap.size rem rfl HRG.out (Nat.le_refl _) ?_ ?_)
   | fail)
  ·intro hr0
   have HE:Hid (eqC L M=true):=eqC_true ⟨HN.out,fun k a h=>HDN.out k a h (by rw[hr0];simp)⟩
   clear hr0
   go_wp2_with fail
   go_ret
   exact⟨rBool HE.out.symm,HKP.out⟩
  ·intro c s ct sl w1 hmem hin hrg1 hlt1 hgr1 hsz1 hen
   have k1:Kp w w1 Nul:=HKP.out.trans' (Kp.of_grown (S:=fun i=>i=w.heap.size) hgr1 (fun i e=>by cases e;rfl)) (fun i hi e=>by have:i=w.heap.size:=e;omega)
   have hi:=HRI.out _ (HSUB.out _ hmem)
   obtain⟨v,bb,hlk,hcase⟩:=HLK.out c s hi.1 hi.2
   obtain⟨X2,hX2⟩:∃X2,(w1.alloc (.cells #[.int .i64 0,.int .i64 0] 32)).alloc (.cells zC21.toArray 50)=X2:=⟨_,rfl⟩
   obtain⟨X3,hX3⟩:∃X3,X2.setCells w1.heap.size 0 [.int .i64 c,.int .i64 s]=X3:=⟨_,rfl⟩
   obtain⟨X4,hX4⟩:∃X4,X3.setCells (w1.heap.size+1) 0 (ct.cells sl)=X4:=⟨_,rfl⟩
   have q2:Kp w1 X2 Nul:=by rw[<- hX2];exact((Kp.refl _ _).alloc _).alloc _
   have a2:Blk X2 w1.heap.size [.int .i64 0,.int .i64 0] 32:=by rw[<- hX2];exact(Blk.new w1 [.int .i64 0,.int .i64 0] _).alloc _
   have c2:Blk X2 (w1.heap.size+1) zC21 50:=by
    have:=Blk.new (w1.alloc (.cells #[.int .i64 0,.int .i64 0] 32)) zC21 50
    rw[World.size_alloc] at this
    rw[<- hX2];exact this
   have a3:Blk X3 w1.heap.size [.int .i64 c,.int .i64 s] 32:=by rw[<- hX3];exact heap_setCells_whole (cs:=#[.int .i64 c,.int .i64 s]) a2 rfl
   have c3:Blk X3 (w1.heap.size+1) zC21 50:=by rw[<- hX3];exact(heap_setCells_ne (by omega) _ _ _).trans c2
   have a4:Blk X4 w1.heap.size [.int .i64 c,.int .i64 s] 32:=by rw[<- hX4];exact(heap_setCells_ne (by omega) _ _ _).trans a3
   have c4:Blk X4 (w1.heap.size+1) (ct.cells sl) 50:=by rw[<- hX4];exact heap_setCells_whole (cs:=(ct.cells sl).toArray) c3 (by simp)
   have q4:Kp w1 X4 Nul:=(q2.trans' (hX3 ▸ setCells_kp (fun i=>i=w1.heap.size) rfl _ _ X2) (fun i hi e=>by have:i=w1.heap.size:=e;omega)).trans' (hX4 ▸ setCells_kp (fun i=>i=w1.heap.size+1) rfl _ _ X3) (fun i hi e=>by have:i=w1.heap.size+1:=e;omega)
   have HX3:Hid (((w1.alloc (.cells #[.int .i64 0,.int .i64 0] 32)).alloc (.cells zC21.toArray 50)).setCells w1.heap.size 0 [.int .i64 c,.int .i64 s]=X3):=by show _=_;rw[hX2];exact hX3
   have HX4:Hid (X3.setCells (w1.heap.size+1) 0 (ct.cells sl)=X4):=hX4
   have T2:Hid (((w1.alloc (.cells #[.int .i64 0,.int .i64 0] 32)).alloc (.cells zC21.toArray 50)).there w1.heap.size 0 2):=by rw[hX2];exact there_of_block a2 _ _ (by simp)
   have T3:Hid (X3.there (w1.heap.size+1) 0 21):=there_of_block c3 _ _ (by simp)
   have OS:Hid (sl.oneCell'=true):=hin.one
   have k4:Kp w X4 Nul:=k1.trans q4
   have d0:X4.cell? ⟨w1.heap.size,0,none⟩=some (.int .i64 c):=a4.cell rfl
   have d1:X4.cell? ⟨w1.heap.size,1,none⟩=some (.int .i64 s):=a4.cell rfl
   have hlt4:w1.heap.size+1<X4.heap.size:=c4.lt
   have HK4:Hid (Kp w X4 Nul):=k4
   have HQ4:Hid (Kp w1 X4 Nul):=q4
   have HC4:Hid (Blk X4 (w1.heap.size+1) (ct.cells sl) 50):=c4
   have HG1:Hid (GRg w1 w.heap.size mv1' w.heap.size (rem.filter (fun x=>decide (x.1≠(c,s))))):=by show GRg _ _ _ _ _;simpa using hrg1
   have HLT:Hid (glen w1 mv1' w.heap.size<glen wr mv1' w.heap.size):=hlt1
   have HSZ:Hid (w.heap.size<w1.heap.size):=by
    show _<_
    have h1:=HRG.out
    rw[hsz1]
    obtain⟨_,_,⟨_,_,q⟩|⟨m,D,left,cnt,_,_,q,_⟩⟩:=h1
    ·exact(Array.getElem?_eq_some_iff.1 q).1
    ·exact q.lt
   have HMEM:Hid (((c,s),ct)∈rem):=hmem
   have HIN:Hid (NdIn w1 (fun b=>b<w.heap.size) sl ct.t):=hin
   rcases hcase with ⟨rfl,ct2,sl2,hm2,rfl,hin2⟩|⟨rfl,rfl,hno⟩
   rotate_left
   ·have l4:=(lk_kp hlk k4).two X4 (fun _ _=>rfl)
    have HE:Hid (eqC L M=false):=eqC_false fun h=>by
     obtain⟨b,hb,_⟩:=h.2 _ _ (HSUB.out _ hmem)
     exact hno b hb
    unfold zCv at l4
    clear hlk hno hrg1 hlt1 hgr1 hsz1 hmem hin hX2 hX3 hX4 q2 a2 c2 a3 c3 a4 c4 q4 k4 k1 hi
    go_wp2_with (first
     | (refine wpList_store_to rfl 32 (.tmp 7) (.tmp 21) rfl w1.heap.size 0 _ rfl rfl T2.out infoAddr2 (by simp[Value.oneCell']) X3 HX3.out ?_)
     | (refine wpList_store_to rfl 50 (.tmp 8) (.tmp 22) rfl (w1.heap.size+1) 0 _ rfl rfl T3.out infoContent (ct.one OS.out) X4 HX4.out ?_)
     | (refine wpList_store_new rfl 50 (.tmp 9) (.tmp 27) rfl _ _ _ _ _ (by first|rfl|simp) rfl rfl rfl infoContent (Ct.one ⟨0,⟨0,0,⟨#[]⟩,false,0⟩,zNd⟩ (sl:=.slice none 0 0) rfl) ?_))
    go_ret
    exact⟨rBool HE.out.symm,HK4.out.alloc _⟩
   ·have l4:=(lk_kp hlk k4).two X4 (fun _ _=>rfl)
    have OS2:Hid (sl2.oneCell'=true):=hin2.one
    have HL5:Hid ((X4.alloc (.cells (ct2.cells sl2).toArray 50)).heap[w1.heap.size+1]? = some (.cells (ct.cells sl).toArray 50 (0,0))/\(X4.alloc (.cells (ct2.cells sl2).toArray 50)).heap[X4.heap.size]? = some (.cells (ct2.cells sl2).toArray 50 (0,0))):=⟨c4.alloc _,heap_alloc_new _ _⟩
    have hSame:=gSame_at ct ct2 sl sl2 (fun b=>b<w.heap.size) (fun b=>0<=b) (X4.alloc (.cells (ct2.cells sl2).toArray 50)) (HOL.out _ (HSUB.out _ hmem)).1 (HOM.out _ hm2).1 (HOL.out _ (HSUB.out _ hmem)).2 (HOM.out _ hm2).2 (hin.kp (q4.alloc _) (fun _ _ x=>x)) (hin2.kp (k4.alloc _) (fun _ _ x=>x))
    have HSame:Hid (Calls Tryz.prog 21 #[ct.val sl,ct2.val sl2] (X4.alloc (.cells (ct2.cells sl2).toArray 50)) fun e w'=>e=.returned (.bool (csame ct ct2))/\Kp (X4.alloc (.cells (ct2.cells sl2).toArray 50)) w' Nul):=hSame
    have HM2:Hid (((c,s),ct2)∈M):=hm2
    clear hlk hrg1 hlt1 hgr1 hsz1 hmem hin hin2 hm2 hX2 hX3 hX4 q2 a2 c2 a3 c3 a4 c4 q4 k4 k1 hi hSame
    generalize hz:csame ct ct2=z at *
    have HZ:Hid (csame ct ct2=z):=hz
    clear hz
    go_wp2_with (first
     | (refine wpList_store_to rfl 32 (.tmp 7) (.tmp 21) rfl w1.heap.size 0 _ rfl rfl T2.out infoAddr2 (by simp[Value.oneCell']) X3 HX3.out ?_)
     | (refine wpList_store_to rfl 50 (.tmp 8) (.tmp 22) rfl (w1.heap.size+1) 0 _ rfl rfl T3.out infoContent (ct.one OS.out) X4 HX4.out ?_)
     | (refine wpList_store_new rfl 50 (.tmp 9) (.tmp 27) rfl _ _ _ _ _ (by first|rfl|simp) rfl rfl rfl infoContent (ct2.one OS2.out) ?_)
     | (refine load_content_law rfl (.tmp 8) rfl (w1.heap.size+1) rfl (ct.cells sl).toArray HL5.out.1 rfl ?_)
     | (refine load_content_law rfl (.tmp 9) rfl X4.heap.size rfl (ct2.cells sl2).toArray HL5.out.2 rfl ?_))
    refine HSame.out.mono ?_
    rintro e w5 ⟨rfl,hk5⟩
    have HK5:Hid (Kp w w5 Nul):=(HK4.out.alloc _).trans hk5
    have HQ5:Hid (Kp w1 w5 Nul):=(HQ4.out.alloc _).trans hk5
    clear hk5 HSame HL5 l4 d0 d1
    cases z with
    | false=>
     have HE:Hid (eqC L M=false):=eqC_false fun h=>by
      obtain⟨b,hb,hb2⟩:=h.2 _ _ (HSUB.out _ HMEM.out)
      rw[once_eq HO.out.once hb HM2.out,HZ.out] at hb2
      cases hb2
     go_wp2_with fail
     go_ret
     exact⟨rBool HE.out.symm,HK5.out⟩
    | true=>
     have hr5:w5.heap[w.heap.size]? = w1.heap[w.heap.size]?:=HQ5.out.block _ HSZ.out (fun x=>x)
     have hb5:Below w.heap.size w1 w5:=HQ5.out.below.mono (Nat.le_of_lt HSZ.out)
     have HG5:Hid (GRg w5 w.heap.size mv1' w.heap.size (rem.filter (fun x=>decide (x.1≠(c,s))))/\glen w5 mv1' w.heap.size<glen wr mv1' w.heap.size):=⟨HG1.out.keep hb5 hr5,by rw[HG1.out.glen hb5 hr5];exact HLT.out⟩
     have HD5:Hid (∀k a,(k,a)∈L->(k,a)∉rem.filter (fun x=>decide (x.1≠(c,s)))->∃b,(k,b)∈M/\csame a b=true):=fun k a h1 h2=>by
      by_cases hm:(k,a)∈rem
      ·have hk:k=(c,s):=by
        by_cases e:k=(c,s)
        ·exact e
        ·exact absurd (List.mem_filter.2 ⟨hm,decide_eq_true e⟩) h2
       subst hk
       have:a=ct:=once_eq HG.out.once h1 (HSUB.out _ HMEM.out)
       subst this
       exact⟨ct2,HM2.out,HZ.out⟩
      ·exact HDN.out k a h1 hm
     clear hr5 hb5
     go_wp2_with fail
     go_roundw
     case rel=>exact⟨_,HG5.out.1,HK5.out,fun x hx=>HSUB.out x (List.mem_filter.1 hx).1,HD5.out⟩
     case measure=>exact HG5.out.2
theorem equal_at (g o:Nat) (L M:List Cc) (w:World) (hg:GI 0 w g L) (ho:GI 0 w o M) (okL:OkC L) (okM:OkC M) :
  Calls Tryz.prog 24 #[.pointer (some ⟨g,0,none⟩),.pointer (some ⟨o,0,none⟩)] w fun e w'=>e=.returned (.bool (eqC L M))/\Kp w w' Nul:=by
 obtain⟨mv1,b1⟩:=hg.blk
 obtain⟨mv2,b2⟩:=ho.blk
 have H1:Hid (∀wq,Kp w wq Nul->Calls Tryz.prog 61 #[.map mv1,.map mv2,.func (.func 21) #[] #[]] wq fun e w'=>e=.returned (.bool (eqC L M))/\Kp wq w' Nul):=fun wq k=>equalF_at g o L M mv1 mv2 wq (hg.kp k) (ho.kp k) (b1.kp k (fun x=>x)) (b2.kp k (fun x=>x)) okL okM
 have HS:Hid (∀wq,Kp w wq Nul->wq.cell? ⟨g,0,none⟩=some (.map mv1)/\wq.cell? ⟨o,0,none⟩=some (.map mv2)):=fun wq k=>⟨(b1.kp k (fun x=>x)).cell rfl,(b2.kp k (fun x=>x)).cell rfl⟩
 generalize eqC L M=V at *
 clear hg ho okL okM b1 b2
 go_enter Tryz.func24,Tryz.ntmps24
 go_wp2_with fail
 refine wp_region_noPanic ?_
 refine wp_region_nul (W:=w) (Kp.refl _ _) (by kernel_rfl) (by kernel_rfl) ?_
 refine quiet_run (some 5) rfl ?_ (by rfl) ?_ ?_
 rotate_left
 ·intro w' hk;obtain⟨s0,s1⟩:=HS.out _ hk;clear hk;go_simp;try with_reducible rfl
 simp only[Act.put,Sz0,Sz1,Sz2]
 refine quiet_run (some 6) rfl ?_ (by rfl) ?_ ?_
 rotate_left
 ·intro w' hk;obtain⟨s0,s1⟩:=HS.out _ hk;clear hk;go_simp;try with_reducible rfl
 simp only[Act.put,Sz0,Sz1,Sz2]
 refine quiet_run (some 7) rfl ?_ (by rfl) ?_ ?_
 rotate_left
 ·intro w' hk;obtain⟨s0,s1⟩:=HS.out _ hk;clear hk;go_simp;try with_reducible rfl
 simp only[Act.put,Sz0,Sz1,Sz2]
 refine quiet_run (some 8) rfl ?_ (by rfl) ?_ ?_
 rotate_left
 ·intro w' hk;obtain⟨s0,s1⟩:=HS.out _ hk;clear hk;go_simp;try with_reducible rfl
 simp only[Act.put,Sz0,Sz1,Sz2]
 refine quiet_run (some 9) rfl ?_ (by rfl) ?_ ?_
 rotate_left
 ·intro w' hk;obtain⟨s0,s1⟩:=HS.out _ hk;clear hk;go_simp;try with_reducible rfl
 simp only[Act.put,Sz0,Sz1,Sz2]
 refine quiet_run (some 10) rfl ?_ (by rfl) ?_ ?_
 rotate_left
 ·intro w' hk;obtain⟨s0,s1⟩:=HS.out _ hk;clear hk;go_simp;try with_reducible rfl
 simp only[Act.put,Sz0,Sz1,Sz2]
 refine quiet_run (some 11) rfl ?_ (by rfl) ?_ ?_
 rotate_left
 ·intro w' hk;obtain⟨s0,s1⟩:=HS.out _ hk;clear hk;go_simp;try with_reducible rfl
 simp only[Act.put,Sz0,Sz1,Sz2]
 refine quiet_run (some 12) rfl ?_ (by rfl) ?_ ?_
 rotate_left
 ·intro w' hk;obtain⟨s0,s1⟩:=HS.out _ hk;clear hk;go_simp;try with_reducible rfl
 simp only[Act.put,Sz0,Sz1,Sz2]
 refine quiet_run (some 13) rfl ?_ (by rfl) ?_ ?_
 rotate_left
 ·intro w' hk;obtain⟨s0,s1⟩:=HS.out _ hk;clear hk;go_simp;try with_reducible rfl
 simp only[Act.put,Sz0,Sz1,Sz2]
 refine quiet_run (some 14) rfl ?_ (by rfl) ?_ ?_
 rotate_left
 ·intro w' hk;obtain⟨s0,s1⟩:=HS.out _ hk;clear hk;go_simp;try with_reducible rfl
 simp only[Act.put,Sz0,Sz1,Sz2]
 refine quiet_run (some 15) rfl ?_ (by rfl) ?_ ?_
 rotate_left
 ·intro w' hk;obtain⟨s0,s1⟩:=HS.out _ hk;clear hk;go_simp;try with_reducible rfl
 simp only[Act.put,Sz0,Sz1,Sz2]
 refine quiet_run (some 16) rfl ?_ (by rfl) ?_ ?_
 rotate_left
 ·intro w' hk;obtain⟨s0,s1⟩:=HS.out _ hk;clear hk;go_simp;try with_reducible rfl
 simp only[Act.put,Sz0,Sz1,Sz2]
 refine quiet_run (some 17) rfl ?_ (by rfl) ?_ ?_
 rotate_left
 ·intro w' hk;obtain⟨s0,s1⟩:=HS.out _ hk;clear hk;go_simp;try with_reducible rfl
 simp only[Act.put,Sz0,Sz1,Sz2]
 refine quiet_run (some 18) rfl ?_ (by rfl) ?_ ?_
 rotate_left
 ·intro w' hk;obtain⟨s0,s1⟩:=HS.out _ hk;clear hk;go_simp;try with_reducible rfl
 simp only[Act.put,Sz0,Sz1,Sz2]
 refine quiet_run (some 19) rfl ?_ (by rfl) ?_ ?_
 rotate_left
 ·intro w' hk;obtain⟨s0,s1⟩:=HS.out _ hk;clear hk;go_simp;try with_reducible rfl
 simp only[Act.put,Sz0,Sz1,Sz2]
 refine quiet_call (some 20) rfl 61 #[.map mv1,.map mv2,.func (.func 21) #[] #[]] (.bool V) (by rfl) (fun w'=>by go_simp) (fun w' hk=>(H1.out w' hk).mono fun e w'' ⟨q1,q2⟩=>⟨q1,hk.trans q2⟩) ?_
 simp only[Act.put,Sz0,Sz1,Sz2]
 refine quiet_run (some 21) rfl ?_ (by rfl) ?_ ?_
 rotate_left
 ·intro w' hk;obtain⟨s0,s1⟩:=HS.out _ hk;clear hk;go_simp;try with_reducible rfl
 simp only[Act.put,Sz0,Sz1,Sz2]
 refine quiet_run (some 4) rfl ?_ (by rfl) ?_ ?_
 rotate_left
 ·intro w' hk;obtain⟨s0,s1⟩:=HS.out _ hk;clear hk;go_simp;try with_reducible rfl
 refine wpQuiet_nil ?_
 intro w' hk
 have HK:Hid (Kp w w' Nul):=hk
 clear hk
 refine NoPanic.normal ?_
 go_wp2_with fail
 go_ret
 exact⟨rfl,HK.out⟩
end Go.Proofs.YtecjfnkakodebaaGreatDoor
