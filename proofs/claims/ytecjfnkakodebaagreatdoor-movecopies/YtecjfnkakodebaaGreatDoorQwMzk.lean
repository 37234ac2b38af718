/-Copy: what becomes of a node that names cells, so much farther on. -/
import Derived.Test.YtecjfnkakodebaaGreatDoorQwMyk
set_option maxRecDepth 20000
set_option maxHeartbeats 16000000
namespace Go.Proofs.YtecjfnkakodebaaGreatDoor
open Go.RowKit
theorem infoRef4:(Tryz.prog.info? 45).map (·.size)=some 4:=by kernel_rfl
theorem ref_ones (a b:Int) (p q:Bool):(([.int .i64 a,.int .i64 b,.bool p,.bool q]:List Value).toArray.all (·.oneCell'))=true:=by simp[Value.oneCell']
theorem blkS {X:World} {n:Nat} (hn:X.heap.size=n) (cs:List Value) (t:TypeId):Blk (X.alloc (.cells cs.toArray t)) n cs t:=hn ▸ Blk.new X cs t
theorem Kp.new2 (w:World) (S:Nat->Prop) (a b:Obj):Kp w ((w.alloc a).alloc b) S:=((Kp.refl w S).alloc _).alloc _
theorem noCell_at (w:World):Calls Tryz.prog 173 #[] w fun e w'=>e=.returned (ndF.hd.val (.slice none 0 0))/\Kp w w' Nul:=by
 have HB:Hid (Blk (w.alloc (.cells #[.int .i64 0,.int .i64 0,.float .f64 0,.string ⟨#[]⟩,.bool false,.int .i64 0,.int .i64 0,.int .i64 0,.bool false,.bool false,.int .i64 0,.int .i64 0,.bool false,.bool false,.slice none 0 0] 48)) w.heap.size [.int .i64 0,.int .i64 0,.float .f64 0,.string ⟨#[]⟩,.bool false,.int .i64 0,.int .i64 0,.int .i64 0,.bool false,.bool false,.int .i64 0,.int .i64 0,.bool false,.bool false,.slice none 0 0] 48):=Blk.new _ _ _
 go_enter Tryz.func173,Tryz.ntmps173
 go_wp2_with (first
  | (refine wpList_store_blk rfl 48 (.tmp 0) (.tmp 1) rfl w.heap.size _ [.int .i64 4,.int .i64 0,.float .f64 0,.string ⟨#[]⟩,.bool false,.int .i64 4,.int .i64 0,.int .i64 0,.bool false,.bool false,.int .i64 0,.int .i64 0,.bool false,.bool false,.slice none 0 0] _ HB.out rfl rfl rfl infoNode (Hd.one ⟨4,0,0,⟨#[]⟩,false,4,0,0,false,false,0,0,false,false⟩ rfl) ?_;intro W5 hb5 hk5)
  | fail)
 refine bodyPost_ret (results_cell_row rfl _ _ w.heap.size 48 _ (0,0) _ rfl hb5 Tryz.underlying48 rfl infoNode) rfl ?_
 exact⟨rfl,((Kp.refl w Nul).alloc _).trans' hk5 (fun i hi e=>by have e':i=w.heap.size:=e;omega)⟩
theorem shiftedRef_core (k o':Int) (x:Nat) (s:ByteArray) (bb:Bool) (ff c1 r1:Int) (p1 q1:Bool) (c2 r2:Int) (p2 q2:Bool) (sl:Value) (X Y A B:Int) (P Q O:Bool) (w:World) (hs:sl.oneCell'=true)
  (HSh:Hid (∀wq,Calls Tryz.prog 172 #[.agg #[.int .i64 c1,.int .i64 r1,.bool p1,.bool q1],.int .i64 X,.int .i64 Y] wq fun e w'=>e=.returned (.tuple #[.agg #[.int .i64 A,.int .i64 B,.bool P,.bool Q],.bool O])/\Kp wq w' Nul)) :
  Calls Tryz.prog 155 #[.agg #[.int .i64 k,.int .i64 o',.float .f64 x,.string s,.bool bb,.int .i64 ff,.int .i64 c1,.int .i64 r1,.bool p1,.bool q1,.int .i64 c2,.int .i64 r2,.bool p2,.bool q2,sl],.int .i64 X,.int .i64 Y] w fun e w'=>e=.returned (if O=true then .agg #[.int .i64 k,.int .i64 o',.float .f64 x,.string s,.bool bb,.int .i64 ff,.int .i64 A,.int .i64 B,.bool P,.bool Q,.int .i64 c2,.int .i64 r2,.bool p2,.bool q2,sl] else ndF.hd.val (.slice none 0 0))/\Kp w w' Nul:=by
 have O1:Hid (sl.oneCell'=true):=hs
 have HNo:Hid (∀wq,Calls Tryz.prog 173 #[] wq fun e w'=>e=.returned (ndF.hd.val (.slice none 0 0))/\Kp wq w' Nul):=noCell_at
 clear hs
 obtain⟨W0,hW0⟩:∃W0,(w.alloc (.cells #[.int .i64 k,.int .i64 o',.float .f64 x,.string s,.bool bb,.int .i64 ff,.int .i64 c1,.int .i64 r1,.bool p1,.bool q1,.int .i64 c2,.int .i64 r2,.bool p2,.bool q2,sl] 48)).alloc (.cells #[.int .i64 0,.int .i64 0,.float .f64 0,.string ⟨#[]⟩,.bool false,.int .i64 0,.int .i64 0,.int .i64 0,.bool false,.bool false,.int .i64 0,.int .i64 0,.bool false,.bool false,.slice none 0 0] 48)=W0:=⟨_,rfl⟩
 have HW0:Hid ((w.alloc (.cells #[.int .i64 k,.int .i64 o',.float .f64 x,.string s,.bool bb,.int .i64 ff,.int .i64 c1,.int .i64 r1,.bool p1,.bool q1,.int .i64 c2,.int .i64 r2,.bool p2,.bool q2,sl] 48)).alloc (.cells #[.int .i64 0,.int .i64 0,.float .f64 0,.string ⟨#[]⟩,.bool false,.int .i64 0,.int .i64 0,.int .i64 0,.bool false,.bool false,.int .i64 0,.int .i64 0,.bool false,.bool false,.slice none 0 0] 48)=W0):=hW0
 have K0:Hid (Kp w W0 Nul):=by show Kp _ _ _;rw[<- hW0];exact Kp.new2 _ _ _ _
 have S0:Hid (W0.heap.size=w.heap.size+2):=by show _=_;rw[<- hW0];simp
 have HN0:Hid (∀X,Kp W0 X Nul->Blk X w.heap.size [.int .i64 k,.int .i64 o',.float .f64 x,.string s,.bool bb,.int .i64 ff,.int .i64 c1,.int .i64 r1,.bool p1,.bool q1,.int .i64 c2,.int .i64 r2,.bool p2,.bool q2,sl] 48):=fun U hq=>by
  have:Blk W0 w.heap.size [.int .i64 k,.int .i64 o',.float .f64 x,.string s,.bool bb,.int .i64 ff,.int .i64 c1,.int .i64 r1,.bool p1,.bool q1,.int .i64 c2,.int .i64 r2,.bool p2,.bool q2,sl] 48:=by rw[<- hW0];exact(Blk.new w [.int .i64 k,.int .i64 o',.float .f64 x,.string s,.bool bb,.int .i64 ff,.int .i64 c1,.int .i64 r1,.bool p1,.bool q1,.int .i64 c2,.int .i64 r2,.bool p2,.bool q2,sl] 48).alloc _
  exact this.kp hq (fun x=>x)
 have HZ0:Hid (∀X,Kp W0 X Nul->Blk X (w.heap.size+1) [.int .i64 0,.int .i64 0,.float .f64 0,.string ⟨#[]⟩,.bool false,.int .i64 0,.int .i64 0,.int .i64 0,.bool false,.bool false,.int .i64 0,.int .i64 0,.bool false,.bool false,.slice none 0 0] 48):=fun U hq=>by
  have:Blk W0 (w.heap.size+1) [.int .i64 0,.int .i64 0,.float .f64 0,.string ⟨#[]⟩,.bool false,.int .i64 0,.int .i64 0,.int .i64 0,.bool false,.bool false,.int .i64 0,.int .i64 0,.bool false,.bool false,.slice none 0 0] 48:=by
   rw[<- hW0]
   have:=Blk.new (w.alloc (.cells #[.int .i64 k,.int .i64 o',.float .f64 x,.string s,.bool bb,.int .i64 ff,.int .i64 c1,.int .i64 r1,.bool p1,.bool q1,.int .i64 c2,.int .i64 r2,.bool p2,.bool q2,sl] 48)) [.int .i64 0,.int .i64 0,.float .f64 0,.string ⟨#[]⟩,.bool false,.int .i64 0,.int .i64 0,.int .i64 0,.bool false,.bool false,.int .i64 0,.int .i64 0,.bool false,.bool false,.slice none 0 0] 48
   rw[World.size_alloc] at this
   exact this
  exact this.kp hq (fun x=>x)
 have HR0:Hid (W0.rangeAt w.heap.size 6 [.int .i64 c1,.int .i64 r1,.bool p1,.bool q1]):=rangeAt_mid (pre:=[.int .i64 k,.int .i64 o',.float .f64 x,.string s,.bool bb,.int .i64 ff]) (post:=[.int .i64 c2,.int .i64 r2,.bool p2,.bool q2,sl]) (HN0.out W0 (Kp.refl _ _))
 clear hW0
 go_enter Tryz.func155,Tryz.ntmps155
 go_wp2_with (first
  | (refine wpList_load_mid rfl 45 (.tmp 10) rfl w.heap.size 6 rfl [.int .i64 c1,.int .i64 r1,.bool p1,.bool q1] _ HR0.out Tryz.underlying45 rfl infoRef4 ?_)
  | fail)
 rw[HW0.out]
 refine(HSh.out _).mono ?_
 rintro e w1 ⟨rfl,hk1⟩
 obtain⟨W2,hW2⟩:∃W2,w1.alloc (.cells #[.int .i64 A,.int .i64 B,.bool P,.bool Q] 45)=W2:=⟨_,rfl⟩
 have HW2:Hid (w1.alloc (.cells #[.int .i64 A,.int .i64 B,.bool P,.bool Q] 45)=W2):=hW2
 have K2:Hid (Kp W0 W2 Nul):=by show Kp _ _ _;rw[<- hW2];exact hk1.alloc _
 have S1:Hid (w.heap.size+2<=w1.heap.size):=by have:=hk1.size;rw[S0.out] at this;exact this
 have HB2:Hid (Blk W2 w1.heap.size [.int .i64 A,.int .i64 B,.bool P,.bool Q] 45):=by show Blk _ _ _ _;rw[<- hW2];exact Blk.new w1 _ _
 clear hk1 hW2 HW0 HR0 HSh
 cases O with
 | false=>
  go_wp2_with fail
  rw[HW2.out]
  go_wp2_with fail
  refine(HNo.out _).mono ?_
  rintro e w5 ⟨rfl,hk5⟩
  have K5:Hid (Kp W0 w5 Nul):=K2.out.trans hk5
  have HZ5:Hid (Blk w5 (w.heap.size+1) [.int .i64 0,.int .i64 0,.float .f64 0,.string ⟨#[]⟩,.bool false,.int .i64 0,.int .i64 0,.int .i64 0,.bool false,.bool false,.int .i64 0,.int .i64 0,.bool false,.bool false,.slice none 0 0] 48):=HZ0.out w5 K5.out
  clear hk5
  go_wp2_with (first
   | (refine wpList_store_blk rfl 48 (.tmp 6) (.tmp 19) rfl (w.heap.size+1) _ [.int .i64 4,.int .i64 0,.float .f64 0,.string ⟨#[]⟩,.bool false,.int .i64 4,.int .i64 0,.int .i64 0,.bool false,.bool false,.int .i64 0,.int .i64 0,.bool false,.bool false,.slice none 0 0] _ HZ5.out rfl rfl rfl infoNode (Hd.one ⟨4,0,0,⟨#[]⟩,false,4,0,0,false,false,0,0,false,false⟩ rfl) ?_;intro W6 hb6 hk6)
   | fail)
  refine bodyPost_ret (results_cell_row rfl _ _ (w.heap.size+1) 48 _ (0,0) _ rfl hb6 Tryz.underlying48 rfl infoNode) rfl ?_
  exact⟨rfl,(K0.out.trans K5.out).trans' hk6 (fun i hi e=>by have e':i=w.heap.size+1:=e;omega)⟩
 | true=>
  have HN2:Hid (Blk W2 w.heap.size [.int .i64 k,.int .i64 o',.float .f64 x,.string s,.bool bb,.int .i64 ff,.int .i64 c1,.int .i64 r1,.bool p1,.bool q1,.int .i64 c2,.int .i64 r2,.bool p2,.bool q2,sl] 48):=HN0.out W2 K2.out
  have HZ2:Hid (Blk W2 (w.heap.size+1) [.int .i64 0,.int .i64 0,.float .f64 0,.string ⟨#[]⟩,.bool false,.int .i64 0,.int .i64 0,.int .i64 0,.bool false,.bool false,.int .i64 0,.int .i64 0,.bool false,.bool false,.slice none 0 0] 48):=HZ0.out W2 K2.out
  have l0:W2.cell? ⟨w1.heap.size,0,none⟩=some (.int .i64 A):=HB2.out.cell rfl
  have l1:W2.cell? ⟨w1.heap.size,1,none⟩=some (.int .i64 B):=HB2.out.cell rfl
  have l2:W2.cell? ⟨w1.heap.size,2,none⟩=some (.bool P):=HB2.out.cell rfl
  have l3:W2.cell? ⟨w1.heap.size,3,none⟩=some (.bool Q):=HB2.out.cell rfl
  go_wp2_with (first
   | (rw[HW2.out])
   | (refine wpList_store_part rfl 45 (.tmp 21) (.tmp 20) rfl w.heap.size 6 [.int .i64 k,.int .i64 o',.float .f64 x,.string s,.bool bb,.int .i64 ff] [.int .i64 c1,.int .i64 r1,.bool p1,.bool q1] [.int .i64 c2,.int .i64 r2,.bool p2,.bool q2,sl] [.int .i64 A,.int .i64 B,.bool P,.bool Q] _ HN2.out rfl rfl rfl rfl infoRef4 (ref_ones _ _ _ _) ?_;intro W5 hb5 hk5;have HG1:Hid (Blk W5 w.heap.size [.int .i64 k,.int .i64 o',.float .f64 x,.string s,.bool bb,.int .i64 ff,.int .i64 A,.int .i64 B,.bool P,.bool Q,.int .i64 c2,.int .i64 r2,.bool p2,.bool q2,sl] 48):=hb5;have HG2:Hid (Blk W5 (w.heap.size+1) [.int .i64 0,.int .i64 0,.float .f64 0,.string ⟨#[]⟩,.bool false,.int .i64 0,.int .i64 0,.int .i64 0,.bool false,.bool false,.int .i64 0,.int .i64 0,.bool false,.bool false,.slice none 0 0] 48):=HZ2.out.kp hk5 (by show ¬(w.heap.size+1)=w.heap.size;omega);have KG:Hid (Kp w W5 Nul):=(K0.out.trans K2.out).trans' hk5 (fun i hi e=>by have e':i=w.heap.size:=e;omega);clear hb5 hk5)
   | (refine wpList_load_mid rfl 48 (.tmp 3) rfl w.heap.size 0 rfl [.int .i64 k,.int .i64 o',.float .f64 x,.string s,.bool bb,.int .i64 ff,.int .i64 A,.int .i64 B,.bool P,.bool Q,.int .i64 c2,.int .i64 r2,.bool p2,.bool q2,sl] _ (blk_range HG1.out) Tryz.underlying48 rfl infoNode ?_)
   | (refine wpList_store_blk rfl 48 (.tmp 6) (.tmp 22) rfl (w.heap.size+1) _ [.int .i64 k,.int .i64 o',.float .f64 x,.string s,.bool bb,.int .i64 ff,.int .i64 A,.int .i64 B,.bool P,.bool Q,.int .i64 c2,.int .i64 r2,.bool p2,.bool q2,sl] _ HG2.out rfl rfl rfl infoNode (Hd.one ⟨k,o',x,s,bb,ff,A,B,P,Q,c2,r2,p2,q2⟩ O1.out) ?_;intro W9 hb9 hk9)
   | fail)
  refine bodyPost_ret (results_cell_row rfl _ _ (w.heap.size+1) 48 _ (0,0) _ rfl hb9 Tryz.underlying48 rfl infoNode) rfl ?_
  exact⟨rfl,KG.out.trans' hk9 (fun i hi e=>by have e':i=w.heap.size+1:=e;omega)⟩
theorem wpList_store_cell {P:Program} {ops:Array Oper} {rest:List Oper} {op:Oper} {a:Act} {w:World} {Q:Exit->Act->World->Prop} (hgd:op.guard=none) (ty:TypeId) (x y:Operand) (ho:op.op=.store ty x y)
  (b i:Nat) (hx:a.eval x=.pointer (some ⟨b,i,none⟩)) (v:Value) (hy:a.eval y=v) (h1:v.oneCell'=true) (t:TypeId) (cs:List Value) (hb:Blk w b cs t) (hi:(P.info? ty).map (·.size)=some 1) (hl:i<cs.length)
  (h:∀W,Blk W b (cs.set i v) t->Kp w W (fun i=>i=b)->wpList P ops Q rest (a.put op.dst undef) W):wpList P ops Q (op::rest) a w:=by
 have hb':w.heap[b]? = some (.cells cs.toArray t (0,0)):=hb
 have hc:v.cells=#[v]:=by cases v <;> first|rfl|cases h1
 have hth:w.there b i 1:=there_of_block hb' _ _ (by simp;omega)
 have hrun:(storeVar ty ⟨b,i,none⟩ v).run P w=.ok () (w.setCells b i [v]):=by
  have:=run_storeCells_cells (P:=P) b i [v] 0 w (fun j hj=>by simpa using (hth j (by simpa using hj)).1) (fun j hj=>by simpa using (hth j (by simpa using hj)).2) (fun x hx=>by simp at hx;subst hx;exact h1)
  cases hq:P.info? ty with
  | none=>simp[hq] at hi
  | some q=>
   have hs:q.size=1:=by simpa [hq] using hi
   simp only[Nat.add_zero] at this
   simp[storeVar,sizeOf,typeInfo,hq,hc,hs,this]
 refine wpList_plain hgd fun _ hK=>?_
 unfold Oper.wp execOp
 simp only[ho,hx,hy,Instr.storeAt,Instr.sureAddr,Sem.run_bind,Sem.run_pure,Result.andThen_ok,hrun]
 refine hK _ _ (h _ ?_ (setCells_kp (fun i=>i=b) rfl _ _ _))
 show Blk (w.setCell ⟨b,i,none⟩ v) b (cs.set i v) t
 exact hb.set i v
theorem setRight_at (a b c d:Int) (p q u v:Bool) (w:World) :
  Calls Tryz.prog 174 #[.agg #[.int .i64 a,.int .i64 b,.bool p,.bool q],.agg #[.int .i64 c,.int .i64 d,.bool u,.bool v]] w fun e w'=>e=.returned (.tuple #[.agg #[.int .i64 (if c<a then c else a),.int .i64 (if d<b then d else b),.bool (if c<a then u else p),.bool (if d<b then v else q)],.agg #[.int .i64 (if c<a then a else c),.int .i64 (if d<b then b else d),.bool (if c<a then p else u),.bool (if d<b then q else v)]])/\Kp w w' Nul:=by
 obtain⟨W0,hW0⟩:∃W0,(((w.alloc (.cells #[.int .i64 a,.int .i64 b,.bool p,.bool q] 45)).alloc (.cells #[.int .i64 c,.int .i64 d,.bool u,.bool v] 45)).alloc (.cells #[.int .i64 0,.int .i64 0,.bool false,.bool false] 45)).alloc (.cells #[.int .i64 0,.int .i64 0,.bool false,.bool false] 45)=W0:=⟨_,rfl⟩
 have HW0:Hid ((((w.alloc (.cells #[.int .i64 a,.int .i64 b,.bool p,.bool q] 45)).alloc (.cells #[.int .i64 c,.int .i64 d,.bool u,.bool v] 45)).alloc (.cells #[.int .i64 0,.int .i64 0,.bool false,.bool false] 45)).alloc (.cells #[.int .i64 0,.int .i64 0,.bool false,.bool false] 45)=W0):=hW0
 have K0:Hid (Kp w W0 Nul):=by show Kp _ _ _;rw[<- hW0];exact((((Kp.refl w Nul).alloc _).alloc _).alloc _).alloc _
 have HA0:Hid (Blk W0 w.heap.size [.int .i64 a,.int .i64 b,.bool p,.bool q] 45):=by show Blk _ _ _ _;rw[<- hW0];exact(((Blk.new w [.int .i64 a,.int .i64 b,.bool p,.bool q] 45).alloc _).alloc _).alloc _
 have HB0:Hid (Blk W0 (w.heap.size+1) [.int .i64 c,.int .i64 d,.bool u,.bool v] 45):=by show Blk _ _ _ _;rw[<- hW0];exact((blkS (by simp) [.int .i64 c,.int .i64 d,.bool u,.bool v] _).alloc _).alloc _
 have HZ4:Hid (∀X,Kp W0 X (fun i=>i=w.heap.size∨i=w.heap.size+1)->Blk X (w.heap.size+1+1) [.int .i64 0,.int .i64 0,.bool false,.bool false] 45):=fun X k=>by
  have:Blk W0 (w.heap.size+1+1) [.int .i64 0,.int .i64 0,.bool false,.bool false] 45:=by rw[<- hW0];exact(blkS (by simp) [.int .i64 0,.int .i64 0,.bool false,.bool false] _).alloc _
  exact this.kp k (fun e=>by have e':w.heap.size+1+1=w.heap.size∨w.heap.size+1+1=w.heap.size+1:=e;omega)
 have HZ5:Hid (∀X,Kp W0 X (fun i=>i=w.heap.size∨i=w.heap.size+1)->Blk X (w.heap.size+1+1+1) [.int .i64 0,.int .i64 0,.bool false,.bool false] 45):=fun X k=>by
  have:Blk W0 (w.heap.size+1+1+1) [.int .i64 0,.int .i64 0,.bool false,.bool false] 45:=by rw[<- hW0];exact blkS (by simp) [.int .i64 0,.int .i64 0,.bool false,.bool false] _
  exact this.kp k (fun e=>by have e':w.heap.size+1+1+1=w.heap.size∨w.heap.size+1+1+1=w.heap.size+1:=e;omega)
 have KX0:Hid (Kp W0 W0 (fun i=>i=w.heap.size∨i=w.heap.size+1)):=Kp.refl _ _
 clear hW0
 go_enter Tryz.func174,Tryz.ntmps174
 by_cases h1:c<a
 ·by_cases h2:d<b
  ·skip
   have la0:W0.cell? ⟨w.heap.size,0,none⟩=some (.int .i64 a):=HA0.out.cell rfl;have lb0:W0.cell? ⟨w.heap.size+1,0,none⟩=some (.int .i64 c):=HB0.out.cell rfl
   go_wp2_with (first
    | (rw[HW0.out])
    | (refine wpList_store_cell rfl 3 (.tmp 20) (.tmp 15) rfl w.heap.size 0 rfl (.int .i64 c) rfl rfl 45 [.int .i64 a,.int .i64 b,.bool p,.bool q] HA0.out (by kernel_rfl) (by simp) ?_;intro W1 hb1 hk1;have HA1:Hid (Blk W1 w.heap.size [.int .i64 c,.int .i64 b,.bool p,.bool q] 45):=hb1;have HB1:Hid (Blk W1 (w.heap.size+1) [.int .i64 c,.int .i64 d,.bool u,.bool v] 45):=HB0.out.kp hk1 (by show ¬_=_;omega);have KX1:Hid (Kp W0 W1 (fun i=>i=w.heap.size∨i=w.heap.size+1)):=KX0.out.trans (hk1.mono (fun i _ e=>by have e':i=w.heap.size:=e;omega));clear hb1 hk1)
    | (refine wpList_store_cell rfl 3 (.tmp 22) (.tmp 18) rfl (w.heap.size+1) 0 rfl (.int .i64 a) rfl rfl 45 [.int .i64 c,.int .i64 d,.bool u,.bool v] HB1.out (by kernel_rfl) (by simp) ?_;intro W2 hb2 hk2;have HB2:Hid (Blk W2 (w.heap.size+1) [.int .i64 a,.int .i64 d,.bool u,.bool v] 45):=hb2;have HA2:Hid (Blk W2 w.heap.size [.int .i64 c,.int .i64 b,.bool p,.bool q] 45):=HA1.out.kp hk2 (by show ¬_=_;omega);have KX2:Hid (Kp W0 W2 (fun i=>i=w.heap.size∨i=w.heap.size+1)):=KX1.out.trans (hk2.mono (fun i _ e=>by have e':i=(w.heap.size+1):=e;omega));clear hb2 hk2;clear la0 lb0;have la2:W2.cell? ⟨w.heap.size,2,none⟩=some (.bool p):=HA2.out.cell rfl;have lb2:W2.cell? ⟨w.heap.size+1,2,none⟩=some (.bool u):=HB2.out.cell rfl)
    | (refine wpList_store_cell rfl 4 (.tmp 27) (.tmp 24) rfl w.heap.size 2 rfl (.bool u) rfl rfl 45 [.int .i64 c,.int .i64 b,.bool p,.bool q] HA2.out (by kernel_rfl) (by simp) ?_;intro W3 hb3 hk3;have HA3:Hid (Blk W3 w.heap.size [.int .i64 c,.int .i64 b,.bool u,.bool q] 45):=hb3;have HB3:Hid (Blk W3 (w.heap.size+1) [.int .i64 a,.int .i64 d,.bool u,.bool v] 45):=HB2.out.kp hk3 (by show ¬_=_;omega);have KX3:Hid (Kp W0 W3 (fun i=>i=w.heap.size∨i=w.heap.size+1)):=KX2.out.trans (hk3.mono (fun i _ e=>by have e':i=w.heap.size:=e;omega));clear hb3 hk3)
    | (refine wpList_store_cell rfl 4 (.tmp 28) (.tmp 26) rfl (w.heap.size+1) 2 rfl (.bool p) rfl rfl 45 [.int .i64 a,.int .i64 d,.bool u,.bool v] HB3.out (by kernel_rfl) (by simp) ?_;intro W4 hb4 hk4;have HB4:Hid (Blk W4 (w.heap.size+1) [.int .i64 a,.int .i64 d,.bool p,.bool v] 45):=hb4;have HA4:Hid (Blk W4 w.heap.size [.int .i64 c,.int .i64 b,.bool u,.bool q] 45):=HA3.out.kp hk4 (by show ¬_=_;omega);have KX4:Hid (Kp W0 W4 (fun i=>i=w.heap.size∨i=w.heap.size+1)):=KX3.out.trans (hk4.mono (fun i _ e=>by have e':i=(w.heap.size+1):=e;omega));clear hb4 hk4;clear la2 lb2;have la1:W4.cell? ⟨w.heap.size,1,none⟩=some (.int .i64 b):=HA4.out.cell rfl;have lb1:W4.cell? ⟨w.heap.size+1,1,none⟩=some (.int .i64 d):=HB4.out.cell rfl)
    | (refine wpList_store_cell rfl 3 (.tmp 43) (.tmp 38) rfl w.heap.size 1 rfl (.int .i64 d) rfl rfl 45 [.int .i64 c,.int .i64 b,.bool u,.bool q] HA4.out (by kernel_rfl) (by simp) ?_;intro W5 hb5 hk5;have HA5:Hid (Blk W5 w.heap.size [.int .i64 c,.int .i64 d,.bool u,.bool q] 45):=hb5;have HB5:Hid (Blk W5 (w.heap.size+1) [.int .i64 a,.int .i64 d,.bool p,.bool v] 45):=HB4.out.kp hk5 (by show ¬_=_;omega);have KX5:Hid (Kp W0 W5 (fun i=>i=w.heap.size∨i=w.heap.size+1)):=KX4.out.trans (hk5.mono (fun i _ e=>by have e':i=w.heap.size:=e;omega));clear hb5 hk5)
    | (refine wpList_store_cell rfl 3 (.tmp 45) (.tmp 41) rfl (w.heap.size+1) 1 rfl (.int .i64 b) rfl rfl 45 [.int .i64 a,.int .i64 d,.bool p,.bool v] HB5.out (by kernel_rfl) (by simp) ?_;intro W6 hb6 hk6;have HB6:Hid (Blk W6 (w.heap.size+1) [.int .i64 a,.int .i64 b,.bool p,.bool v] 45):=hb6;have HA6:Hid (Blk W6 w.heap.size [.int .i64 c,.int .i64 d,.bool u,.bool q] 45):=HA5.out.kp hk6 (by show ¬_=_;omega);have KX6:Hid (Kp W0 W6 (fun i=>i=w.heap.size∨i=w.heap.size+1)):=KX5.out.trans (hk6.mono (fun i _ e=>by have e':i=(w.heap.size+1):=e;omega));clear hb6 hk6;clear la1 lb1;have la3:W6.cell? ⟨w.heap.size,3,none⟩=some (.bool q):=HA6.out.cell rfl;have lb3:W6.cell? ⟨w.heap.size+1,3,none⟩=some (.bool v):=HB6.out.cell rfl)
    | (refine wpList_store_cell rfl 4 (.tmp 50) (.tmp 47) rfl w.heap.size 3 rfl (.bool v) rfl rfl 45 [.int .i64 c,.int .i64 d,.bool u,.bool q] HA6.out (by kernel_rfl) (by simp) ?_;intro W7 hb7 hk7;have HA7:Hid (Blk W7 w.heap.size [.int .i64 c,.int .i64 d,.bool u,.bool v] 45):=hb7;have HB7:Hid (Blk W7 (w.heap.size+1) [.int .i64 a,.int .i64 b,.bool p,.bool v] 45):=HB6.out.kp hk7 (by show ¬_=_;omega);have KX7:Hid (Kp W0 W7 (fun i=>i=w.heap.size∨i=w.heap.size+1)):=KX6.out.trans (hk7.mono (fun i _ e=>by have e':i=w.heap.size:=e;omega));clear hb7 hk7)
    | (refine wpList_store_cell rfl 4 (.tmp 51) (.tmp 49) rfl (w.heap.size+1) 3 rfl (.bool q) rfl rfl 45 [.int .i64 a,.int .i64 b,.bool p,.bool v] HB7.out (by kernel_rfl) (by simp) ?_;intro W8 hb8 hk8;have HB8:Hid (Blk W8 (w.heap.size+1) [.int .i64 a,.int .i64 b,.bool p,.bool q] 45):=hb8;have HA8:Hid (Blk W8 w.heap.size [.int .i64 c,.int .i64 d,.bool u,.bool v] 45):=HA7.out.kp hk8 (by show ¬_=_;omega);have KX8:Hid (Kp W0 W8 (fun i=>i=w.heap.size∨i=w.heap.size+1)):=KX7.out.trans (hk8.mono (fun i _ e=>by have e':i=(w.heap.size+1):=e;omega));clear hb8 hk8;clear la3 lb3)
    | fail)
   have HAf:Hid (Blk W8 w.heap.size [.int .i64 c,.int .i64 d,.bool u,.bool v] 45):=HA8
   have HBf:Hid (Blk W8 (w.heap.size+1) [.int .i64 a,.int .i64 b,.bool p,.bool q] 45):=HB8
   have KF:Hid (Kp W0 W8 (fun i=>i=w.heap.size∨i=w.heap.size+1)):=KX8
   have HR4:Hid (Blk W8 (w.heap.size+1+1) [.int .i64 0,.int .i64 0,.bool false,.bool false] 45):=HZ4.out _ KF.out
   have HR5:Hid (Blk W8 (w.heap.size+1+1+1) [.int .i64 0,.int .i64 0,.bool false,.bool false] 45):=HZ5.out _ KF.out
   refine wp_region_noPanic ?_
   refine wp_region_hel (fun w':World=>Blk w' w.heap.size [.int .i64 c,.int .i64 d,.bool u,.bool v] 45/\Blk w' (w.heap.size+1) [.int .i64 a,.int .i64 b,.bool p,.bool q] 45) (by kernel_rfl) ⟨HAf.out.kp (Kp.refl _ Nul).drew (fun x=>x),HBf.out.kp (Kp.refl _ Nul).drew (fun x=>x)⟩ (fun hHeld=>?_)
   refine wpH_takes (i:=0) (v:=.agg #[.int .i64 c,.int .i64 d,.bool u,.bool v]) (some 52) rfl rfl (by kernel_rfl) (fun _ _ _ h=>h) (Or.inl ⟨by rfl,fun w' hSw=>exec_load_row 45 (.tmp 2) rfl w.heap.size 0 rfl [.int .i64 c,.int .i64 d,.bool u,.bool v] _ (blk_range hSw.1) Tryz.underlying45 rfl infoRef4⟩) hHeld ?_
   simp only[Act.put,Sz0,Sz1,Sz2]
   refine wpH_takes (i:=1) (v:=.agg #[.int .i64 a,.int .i64 b,.bool p,.bool q]) (some 53) rfl rfl (by kernel_rfl) (fun _ _ _ h=>h) (Or.inl ⟨by rfl,fun w' hSw=>exec_load_row 45 (.tmp 3) rfl (w.heap.size+1) 0 rfl [.int .i64 a,.int .i64 b,.bool p,.bool q] _ (blk_range hSw.2) Tryz.underlying45 rfl infoRef4⟩) hHeld ?_
   simp only[Act.put,Sz0,Sz1,Sz2]
   refine wpH_step (i:=2) (by kernel_rfl) rfl rfl (fun K hK=>?_)
   refine wp_store_blk 45 (.tmp 4) (.tmp 52) rfl (w.heap.size+1+1) _ [.int .i64 c,.int .i64 d,.bool u,.bool v] _ (HR4.out.kp (Kp.refl _ Nul).drew (fun x=>x)) rfl rfl rfl infoRef4 (ref_ones _ _ _ _) ?_
   intro Y hY kY
   have kY':=((Kp.refl W8 (fun i=>i=w.heap.size+1+1)).drew).trans kY
   have HY5:Hid (Blk Y (w.heap.size+1+1+1) [.int .i64 0,.int .i64 0,.bool false,.bool false] 45):=HR5.out.kp kY' (by show ¬_=_;omega)
   refine hK.out _ _ ⟨HAf.out.kp kY' (by show ¬_=_;omega),HBf.out.kp kY' (by show ¬_=_;omega)⟩ (fun hHeld=>?_)
   clear hK K
   (try simp only[Act.put])
   refine wpH_step (i:=3) (by kernel_rfl) rfl rfl (fun K hK=>?_)
   refine wp_store_blk 45 (.tmp 5) (.tmp 53) rfl (w.heap.size+1+1+1) _ [.int .i64 a,.int .i64 b,.bool p,.bool q] _ HY5.out rfl rfl rfl infoRef4 (ref_ones _ _ _ _) ?_
   intro Y2 hY2 kY2
   have hYY:=hY.kp kY2 (by show ¬_=_;omega)
   refine hK.out _ _ ⟨(HAf.out.kp kY' (by show ¬_=_;omega)).kp kY2 (by show ¬_=_;omega),(HBf.out.kp kY' (by show ¬_=_;omega)).kp kY2 (by show ¬_=_;omega)⟩ (fun _=>?_)
   clear hK K hHeld
   (try simp only[Act.put])
   refine wpAnyH_done (by kernel_rfl) ?_ _
   refine NoPanic.normal ?_
   go_wp2_with fail
   refine bodyPost_ret (results_row_row rfl _ _ (w.heap.size+1+1) 45 _ (0,0) _ (w.heap.size+1+1+1) 45 _ (0,0) _ rfl hYY Tryz.underlying45 rfl infoRef4 rfl hY2 Tryz.underlying45 rfl infoRef4) rfl ?_
   refine⟨?_,((K0.out.trans' KF.out (fun i hi e=>by have e':i=w.heap.size∨i=w.heap.size+1:=e;omega)).trans' kY' (fun i hi e=>by have e':i=w.heap.size+1+1:=e;omega)).trans' kY2 (fun i hi e=>by have e':i=w.heap.size+1+1+1:=e;omega)⟩
   rfl
  ·skip
   have la0:W0.cell? ⟨w.heap.size,0,none⟩=some (.int .i64 a):=HA0.out.cell rfl;have lb0:W0.cell? ⟨w.heap.size+1,0,none⟩=some (.int .i64 c):=HB0.out.cell rfl
   go_wp2_with (first
    | (rw[HW0.out])
    | (refine wpList_store_cell rfl 3 (.tmp 20) (.tmp 15) rfl w.heap.size 0 rfl (.int .i64 c) rfl rfl 45 [.int .i64 a,.int .i64 b,.bool p,.bool q] HA0.out (by kernel_rfl) (by simp) ?_;intro W1 hb1 hk1;have HA1:Hid (Blk W1 w.heap.size [.int .i64 c,.int .i64 b,.bool p,.bool q] 45):=hb1;have HB1:Hid (Blk W1 (w.heap.size+1) [.int .i64 c,.int .i64 d,.bool u,.bool v] 45):=HB0.out.kp hk1 (by show ¬_=_;omega);have KX1:Hid (Kp W0 W1 (fun i=>i=w.heap.size∨i=w.heap.size+1)):=KX0.out.trans (hk1.mono (fun i _ e=>by have e':i=w.heap.size:=e;omega));clear hb1 hk1)
    | (refine wpList_store_cell rfl 3 (.tmp 22) (.tmp 18) rfl (w.heap.size+1) 0 rfl (.int .i64 a) rfl rfl 45 [.int .i64 c,.int .i64 d,.bool u,.bool v] HB1.out (by kernel_rfl) (by simp) ?_;intro W2 hb2 hk2;have HB2:Hid (Blk W2 (w.heap.size+1) [.int .i64 a,.int .i64 d,.bool u,.bool v] 45):=hb2;have HA2:Hid (Blk W2 w.heap.size [.int .i64 c,.int .i64 b,.bool p,.bool q] 45):=HA1.out.kp hk2 (by show ¬_=_;omega);have KX2:Hid (Kp W0 W2 (fun i=>i=w.heap.size∨i=w.heap.size+1)):=KX1.out.trans (hk2.mono (fun i _ e=>by have e':i=(w.heap.size+1):=e;omega));clear hb2 hk2;clear la0 lb0;have la2:W2.cell? ⟨w.heap.size,2,none⟩=some (.bool p):=HA2.out.cell rfl;have lb2:W2.cell? ⟨w.heap.size+1,2,none⟩=some (.bool u):=HB2.out.cell rfl)
    | (refine wpList_store_cell rfl 4 (.tmp 27) (.tmp 24) rfl w.heap.size 2 rfl (.bool u) rfl rfl 45 [.int .i64 c,.int .i64 b,.bool p,.bool q] HA2.out (by kernel_rfl) (by simp) ?_;intro W3 hb3 hk3;have HA3:Hid (Blk W3 w.heap.size [.int .i64 c,.int .i64 b,.bool u,.bool q] 45):=hb3;have HB3:Hid (Blk W3 (w.heap.size+1) [.int .i64 a,.int .i64 d,.bool u,.bool v] 45):=HB2.out.kp hk3 (by show ¬_=_;omega);have KX3:Hid (Kp W0 W3 (fun i=>i=w.heap.size∨i=w.heap.size+1)):=KX2.out.trans (hk3.mono (fun i _ e=>by have e':i=w.heap.size:=e;omega));clear hb3 hk3)
    | (refine wpList_store_cell rfl 4 (.tmp 28) (.tmp 26) rfl (w.heap.size+1) 2 rfl (.bool p) rfl rfl 45 [.int .i64 a,.int .i64 d,.bool u,.bool v] HB3.out (by kernel_rfl) (by simp) ?_;intro W4 hb4 hk4;have HB4:Hid (Blk W4 (w.heap.size+1) [.int .i64 a,.int .i64 d,.bool p,.bool v] 45):=hb4;have HA4:Hid (Blk W4 w.heap.size [.int .i64 c,.int .i64 b,.bool u,.bool q] 45):=HA3.out.kp hk4 (by show ¬_=_;omega);have KX4:Hid (Kp W0 W4 (fun i=>i=w.heap.size∨i=w.heap.size+1)):=KX3.out.trans (hk4.mono (fun i _ e=>by have e':i=(w.heap.size+1):=e;omega));clear hb4 hk4;clear la2 lb2;have la1:W4.cell? ⟨w.heap.size,1,none⟩=some (.int .i64 b):=HA4.out.cell rfl;have lb1:W4.cell? ⟨w.heap.size+1,1,none⟩=some (.int .i64 d):=HB4.out.cell rfl)
    | fail)
   have HAf:Hid (Blk W4 w.heap.size [.int .i64 c,.int .i64 b,.bool u,.bool q] 45):=HA4
   have HBf:Hid (Blk W4 (w.heap.size+1) [.int .i64 a,.int .i64 d,.bool p,.bool v] 45):=HB4
   have KF:Hid (Kp W0 W4 (fun i=>i=w.heap.size∨i=w.heap.size+1)):=KX4
   have HR4:Hid (Blk W4 (w.heap.size+1+1) [.int .i64 0,.int .i64 0,.bool false,.bool false] 45):=HZ4.out _ KF.out
   have HR5:Hid (Blk W4 (w.heap.size+1+1+1) [.int .i64 0,.int .i64 0,.bool false,.bool false] 45):=HZ5.out _ KF.out
   refine wp_region_noPanic ?_
   refine wp_region_hel (fun w':World=>Blk w' w.heap.size [.int .i64 c,.int .i64 b,.bool u,.bool q] 45/\Blk w' (w.heap.size+1) [.int .i64 a,.int .i64 d,.bool p,.bool v] 45) (by kernel_rfl) ⟨HAf.out.kp (Kp.refl _ Nul).drew (fun x=>x),HBf.out.kp (Kp.refl _ Nul).drew (fun x=>x)⟩ (fun hHeld=>?_)
   refine wpH_takes (i:=0) (v:=.agg #[.int .i64 c,.int .i64 b,.bool u,.bool q]) (some 52) rfl rfl (by kernel_rfl) (fun _ _ _ h=>h) (Or.inl ⟨by rfl,fun w' hSw=>exec_load_row 45 (.tmp 2) rfl w.heap.size 0 rfl [.int .i64 c,.int .i64 b,.bool u,.bool q] _ (blk_range hSw.1) Tryz.underlying45 rfl infoRef4⟩) hHeld ?_
   simp only[Act.put,Sz0,Sz1,Sz2]
   refine wpH_takes (i:=1) (v:=.agg #[.int .i64 a,.int .i64 d,.bool p,.bool v]) (some 53) rfl rfl (by kernel_rfl) (fun _ _ _ h=>h) (Or.inl ⟨by rfl,fun w' hSw=>exec_load_row 45 (.tmp 3) rfl (w.heap.size+1) 0 rfl [.int .i64 a,.int .i64 d,.bool p,.bool v] _ (blk_range hSw.2) Tryz.underlying45 rfl infoRef4⟩) hHeld ?_
   simp only[Act.put,Sz0,Sz1,Sz2]
   refine wpH_step (i:=2) (by kernel_rfl) rfl rfl (fun K hK=>?_)
   refine wp_store_blk 45 (.tmp 4) (.tmp 52) rfl (w.heap.size+1+1) _ [.int .i64 c,.int .i64 b,.bool u,.bool q] _ (HR4.out.kp (Kp.refl _ Nul).drew (fun x=>x)) rfl rfl rfl infoRef4 (ref_ones _ _ _ _) ?_
   intro Y hY kY
   have kY':=((Kp.refl W4 (fun i=>i=w.heap.size+1+1)).drew).trans kY
   have HY5:Hid (Blk Y (w.heap.size+1+1+1) [.int .i64 0,.int .i64 0,.bool false,.bool false] 45):=HR5.out.kp kY' (by show ¬_=_;omega)
   refine hK.out _ _ ⟨HAf.out.kp kY' (by show ¬_=_;omega),HBf.out.kp kY' (by show ¬_=_;omega)⟩ (fun hHeld=>?_)
   clear hK K
   (try simp only[Act.put])
   refine wpH_step (i:=3) (by kernel_rfl) rfl rfl (fun K hK=>?_)
   refine wp_store_blk 45 (.tmp 5) (.tmp 53) rfl (w.heap.size+1+1+1) _ [.int .i64 a,.int .i64 d,.bool p,.bool v] _ HY5.out rfl rfl rfl infoRef4 (ref_ones _ _ _ _) ?_
   intro Y2 hY2 kY2
   have hYY:=hY.kp kY2 (by show ¬_=_;omega)
   refine hK.out _ _ ⟨(HAf.out.kp kY' (by show ¬_=_;omega)).kp kY2 (by show ¬_=_;omega),(HBf.out.kp kY' (by show ¬_=_;omega)).kp kY2 (by show ¬_=_;omega)⟩ (fun _=>?_)
   clear hK K hHeld
   (try simp only[Act.put])
   refine wpAnyH_done (by kernel_rfl) ?_ _
   refine NoPanic.normal ?_
   go_wp2_with fail
   refine bodyPost_ret (results_row_row rfl _ _ (w.heap.size+1+1) 45 _ (0,0) _ (w.heap.size+1+1+1) 45 _ (0,0) _ rfl hYY Tryz.underlying45 rfl infoRef4 rfl hY2 Tryz.underlying45 rfl infoRef4) rfl ?_
   refine⟨?_,((K0.out.trans' KF.out (fun i hi e=>by have e':i=w.heap.size∨i=w.heap.size+1:=e;omega)).trans' kY' (fun i hi e=>by have e':i=w.heap.size+1+1:=e;omega)).trans' kY2 (fun i hi e=>by have e':i=w.heap.size+1+1+1:=e;omega)⟩
   rfl
 ·by_cases h2:d<b
  ·skip
   have la0:W0.cell? ⟨w.heap.size,0,none⟩=some (.int .i64 a):=HA0.out.cell rfl;have lb0:W0.cell? ⟨w.heap.size+1,0,none⟩=some (.int .i64 c):=HB0.out.cell rfl;have la1:W0.cell? ⟨w.heap.size,1,none⟩=some (.int .i64 b):=HA0.out.cell rfl;have lb1:W0.cell? ⟨w.heap.size+1,1,none⟩=some (.int .i64 d):=HB0.out.cell rfl
   go_wp2_with (first
    | (rw[HW0.out])
    | (refine wpList_store_cell rfl 3 (.tmp 43) (.tmp 38) rfl w.heap.size 1 rfl (.int .i64 d) rfl rfl 45 [.int .i64 a,.int .i64 b,.bool p,.bool q] HA0.out (by kernel_rfl) (by simp) ?_;intro W1 hb1 hk1;have HA1:Hid (Blk W1 w.heap.size [.int .i64 a,.int .i64 d,.bool p,.bool q] 45):=hb1;have HB1:Hid (Blk W1 (w.heap.size+1) [.int .i64 c,.int .i64 d,.bool u,.bool v] 45):=HB0.out.kp hk1 (by show ¬_=_;omega);have KX1:Hid (Kp W0 W1 (fun i=>i=w.heap.size∨i=w.heap.size+1)):=KX0.out.trans (hk1.mono (fun i _ e=>by have e':i=w.heap.size:=e;omega));clear hb1 hk1)
    | (refine wpList_store_cell rfl 3 (.tmp 45) (.tmp 41) rfl (w.heap.size+1) 1 rfl (.int .i64 b) rfl rfl 45 [.int .i64 c,.int .i64 d,.bool u,.bool v] HB1.out (by kernel_rfl) (by simp) ?_;intro W2 hb2 hk2;have HB2:Hid (Blk W2 (w.heap.size+1) [.int .i64 c,.int .i64 b,.bool u,.bool v] 45):=hb2;have HA2:Hid (Blk W2 w.heap.size [.int .i64 a,.int .i64 d,.bool p,.bool q] 45):=HA1.out.kp hk2 (by show ¬_=_;omega);have KX2:Hid (Kp W0 W2 (fun i=>i=w.heap.size∨i=w.heap.size+1)):=KX1.out.trans (hk2.mono (fun i _ e=>by have e':i=(w.heap.size+1):=e;omega));clear hb2 hk2;clear la1 lb1;have la3:W2.cell? ⟨w.heap.size,3,none⟩=some (.bool q):=HA2.out.cell rfl;have lb3:W2.cell? ⟨w.heap.size+1,3,none⟩=some (.bool v):=HB2.out.cell rfl)
    | (refine wpList_store_cell rfl 4 (.tmp 50) (.tmp 47) rfl w.heap.size 3 rfl (.bool v) rfl rfl 45 [.int .i64 a,.int .i64 d,.bool p,.bool q] HA2.out (by kernel_rfl) (by simp) ?_;intro W3 hb3 hk3;have HA3:Hid (Blk W3 w.heap.size [.int .i64 a,.int .i64 d,.bool p,.bool v] 45):=hb3;have HB3:Hid (Blk W3 (w.heap.size+1) [.int .i64 c,.int .i64 b,.bool u,.bool v] 45):=HB2.out.kp hk3 (by show ¬_=_;omega);have KX3:Hid (Kp W0 W3 (fun i=>i=w.heap.size∨i=w.heap.size+1)):=KX2.out.trans (hk3.mono (fun i _ e=>by have e':i=w.heap.size:=e;omega));clear hb3 hk3)
    | (refine wpList_store_cell rfl 4 (.tmp 51) (.tmp 49) rfl (w.heap.size+1) 3 rfl (.bool q) rfl rfl 45 [.int .i64 c,.int .i64 b,.bool u,.bool v] HB3.out (by kernel_rfl) (by simp) ?_;intro W4 hb4 hk4;have HB4:Hid (Blk W4 (w.heap.size+1) [.int .i64 c,.int .i64 b,.bool u,.bool q] 45):=hb4;have HA4:Hid (Blk W4 w.heap.size [.int .i64 a,.int .i64 d,.bool p,.bool v] 45):=HA3.out.kp hk4 (by show ¬_=_;omega);have KX4:Hid (Kp W0 W4 (fun i=>i=w.heap.size∨i=w.heap.size+1)):=KX3.out.trans (hk4.mono (fun i _ e=>by have e':i=(w.heap.size+1):=e;omega));clear hb4 hk4;clear la3 lb3)
    | fail)
   have HAf:Hid (Blk W4 w.heap.size [.int .i64 a,.int .i64 d,.bool p,.bool v] 45):=HA4
   have HBf:Hid (Blk W4 (w.heap.size+1) [.int .i64 c,.int .i64 b,.bool u,.bool q] 45):=HB4
   have KF:Hid (Kp W0 W4 (fun i=>i=w.heap.size∨i=w.heap.size+1)):=KX4
   have HR4:Hid (Blk W4 (w.heap.size+1+1) [.int .i64 0,.int .i64 0,.bool false,.bool false] 45):=HZ4.out _ KF.out
   have HR5:Hid (Blk W4 (w.heap.size+1+1+1) [.int .i64 0,.int .i64 0,.bool false,.bool false] 45):=HZ5.out _ KF.out
   refine wp_region_noPanic ?_
   refine wp_region_hel (fun w':World=>Blk w' w.heap.size [.int .i64 a,.int .i64 d,.bool p,.bool v] 45/\Blk w' (w.heap.size+1) [.int .i64 c,.int .i64 b,.bool u,.bool q] 45) (by kernel_rfl) ⟨HAf.out.kp (Kp.refl _ Nul).drew (fun x=>x),HBf.out.kp (Kp.refl _ Nul).drew (fun x=>x)⟩ (fun hHeld=>?_)
   refine wpH_takes (i:=0) (v:=.agg #[.int .i64 a,.int .i64 d,.bool p,.bool v]) (some 52) rfl rfl (by kernel_rfl) (fun _ _ _ h=>h) (Or.inl ⟨by rfl,fun w' hSw=>exec_load_row 45 (.tmp 2) rfl w.heap.size 0 rfl [.int .i64 a,.int .i64 d,.bool p,.bool v] _ (blk_range hSw.1) Tryz.underlying45 rfl infoRef4⟩) hHeld ?_
   simp only[Act.put,Sz0,Sz1,Sz2]
   refine wpH_takes (i:=1) (v:=.agg #[.int .i64 c,.int .i64 b,.bool u,.bool q]) (some 53) rfl rfl (by kernel_rfl) (fun _ _ _ h=>h) (Or.inl ⟨by rfl,fun w' hSw=>exec_load_row 45 (.tmp 3) rfl (w.heap.size+1) 0 rfl [.int .i64 c,.int .i64 b,.bool u,.bool q] _ (blk_range hSw.2) Tryz.underlying45 rfl infoRef4⟩) hHeld ?_
   simp only[Act.put,Sz0,Sz1,Sz2]
   refine wpH_step (i:=2) (by kernel_rfl) rfl rfl (fun K hK=>?_)
   refine wp_store_blk 45 (.tmp 4) (.tmp 52) rfl (w.heap.size+1+1) _ [.int .i64 a,.int .i64 d,.bool p,.bool v] _ (HR4.out.kp (Kp.refl _ Nul).drew (fun x=>x)) rfl rfl rfl infoRef4 (ref_ones _ _ _ _) ?_
   intro Y hY kY
   have kY':=((Kp.refl W4 (fun i=>i=w.heap.size+1+1)).drew).trans kY
   have HY5:Hid (Blk Y (w.heap.size+1+1+1) [.int .i64 0,.int .i64 0,.bool false,.bool false] 45):=HR5.out.kp kY' (by show ¬_=_;omega)
   refine hK.out _ _ ⟨HAf.out.kp kY' (by show ¬_=_;omega),HBf.out.kp kY' (by show ¬_=_;omega)⟩ (fun hHeld=>?_)
   clear hK K
   (try simp only[Act.put])
   refine wpH_step (i:=3) (by kernel_rfl) rfl rfl (fun K hK=>?_)
   refine wp_store_blk 45 (.tmp 5) (.tmp 53) rfl (w.heap.size+1+1+1) _ [.int .i64 c,.int .i64 b,.bool u,.bool q] _ HY5.out rfl rfl rfl infoRef4 (ref_ones _ _ _ _) ?_
   intro Y2 hY2 kY2
   have hYY:=hY.kp kY2 (by show ¬_=_;omega)
   refine hK.out _ _ ⟨(HAf.out.kp kY' (by show ¬_=_;omega)).kp kY2 (by show ¬_=_;omega),(HBf.out.kp kY' (by show ¬_=_;omega)).kp kY2 (by show ¬_=_;omega)⟩ (fun _=>?_)
   clear hK K hHeld
   (try simp only[Act.put])
   refine wpAnyH_done (by kernel_rfl) ?_ _
   refine NoPanic.normal ?_
   go_wp2_with fail
   refine bodyPost_ret (results_row_row rfl _ _ (w.heap.size+1+1) 45 _ (0,0) _ (w.heap.size+1+1+1) 45 _ (0,0) _ rfl hYY Tryz.underlying45 rfl infoRef4 rfl hY2 Tryz.underlying45 rfl infoRef4) rfl ?_
   refine⟨?_,((K0.out.trans' KF.out (fun i hi e=>by have e':i=w.heap.size∨i=w.heap.size+1:=e;omega)).trans' kY' (fun i hi e=>by have e':i=w.heap.size+1+1:=e;omega)).trans' kY2 (fun i hi e=>by have e':i=w.heap.size+1+1+1:=e;omega)⟩
   rfl
  ·skip
   have la0:W0.cell? ⟨w.heap.size,0,none⟩=some (.int .i64 a):=HA0.out.cell rfl;have lb0:W0.cell? ⟨w.heap.size+1,0,none⟩=some (.int .i64 c):=HB0.out.cell rfl;have la1:W0.cell? ⟨w.heap.size,1,none⟩=some (.int .i64 b):=HA0.out.cell rfl;have lb1:W0.cell? ⟨w.heap.size+1,1,none⟩=some (.int .i64 d):=HB0.out.cell rfl
   go_wp2_with (first
    | (rw[HW0.out])
    | fail)
   have HAf:Hid (Blk W0 w.heap.size [.int .i64 a,.int .i64 b,.bool p,.bool q] 45):=HA0
   have HBf:Hid (Blk W0 (w.heap.size+1) [.int .i64 c,.int .i64 d,.bool u,.bool v] 45):=HB0
   have KF:Hid (Kp W0 W0 (fun i=>i=w.heap.size∨i=w.heap.size+1)):=KX0
   have HR4:Hid (Blk W0 (w.heap.size+1+1) [.int .i64 0,.int .i64 0,.bool false,.bool false] 45):=HZ4.out _ KF.out
   have HR5:Hid (Blk W0 (w.heap.size+1+1+1) [.int .i64 0,.int .i64 0,.bool false,.bool false] 45):=HZ5.out _ KF.out
   refine wp_region_noPanic ?_
   refine wp_region_hel (fun w':World=>Blk w' w.heap.size [.int .i64 a,.int .i64 b,.bool p,.bool q] 45/\Blk w' (w.heap.size+1) [.int .i64 c,.int .i64 d,.bool u,.bool v] 45) (by kernel_rfl) ⟨HAf.out.kp (Kp.refl _ Nul).drew (fun x=>x),HBf.out.kp (Kp.refl _ Nul).drew (fun x=>x)⟩ (fun hHeld=>?_)
   refine wpH_takes (i:=0) (v:=.agg #[.int .i64 a,.int .i64 b,.bool p,.bool q]) (some 52) rfl rfl (by kernel_rfl) (fun _ _ _ h=>h) (Or.inl ⟨by rfl,fun w' hSw=>exec_load_row 45 (.tmp 2) rfl w.heap.size 0 rfl [.int .i64 a,.int .i64 b,.bool p,.bool q] _ (blk_range hSw.1) Tryz.underlying45 rfl infoRef4⟩) hHeld ?_
   simp only[Act.put,Sz0,Sz1,Sz2]
   refine wpH_takes (i:=1) (v:=.agg #[.int .i64 c,.int .i64 d,.bool u,.bool v]) (some 53) rfl rfl (by kernel_rfl) (fun _ _ _ h=>h) (Or.inl ⟨by rfl,fun w' hSw=>exec_load_row 45 (.tmp 3) rfl (w.heap.size+1) 0 rfl [.int .i64 c,.int .i64 d,.bool u,.bool v] _ (blk_range hSw.2) Tryz.underlying45 rfl infoRef4⟩) hHeld ?_
   simp only[Act.put,Sz0,Sz1,Sz2]
   refine wpH_step (i:=2) (by kernel_rfl) rfl rfl (fun K hK=>?_)
   refine wp_store_blk 45 (.tmp 4) (.tmp 52) rfl (w.heap.size+1+1) _ [.int .i64 a,.int .i64 b,.bool p,.bool q] _ (HR4.out.kp (Kp.refl _ Nul).drew (fun x=>x)) rfl rfl rfl infoRef4 (ref_ones _ _ _ _) ?_
   intro Y hY kY
   have kY':=((Kp.refl W0 (fun i=>i=w.heap.size+1+1)).drew).trans kY
   have HY5:Hid (Blk Y (w.heap.size+1+1+1) [.int .i64 0,.int .i64 0,.bool false,.bool false] 45):=HR5.out.kp kY' (by show ¬_=_;omega)
   refine hK.out _ _ ⟨HAf.out.kp kY' (by show ¬_=_;omega),HBf.out.kp kY' (by show ¬_=_;omega)⟩ (fun hHeld=>?_)
   clear hK K
   (try simp only[Act.put])
   refine wpH_step (i:=3) (by kernel_rfl) rfl rfl (fun K hK=>?_)
   refine wp_store_blk 45 (.tmp 5) (.tmp 53) rfl (w.heap.size+1+1+1) _ [.int .i64 c,.int .i64 d,.bool u,.bool v] _ HY5.out rfl rfl rfl infoRef4 (ref_ones _ _ _ _) ?_
   intro Y2 hY2 kY2
   have hYY:=hY.kp kY2 (by show ¬_=_;omega)
   refine hK.out _ _ ⟨(HAf.out.kp kY' (by show ¬_=_;omega)).kp kY2 (by show ¬_=_;omega),(HBf.out.kp kY' (by show ¬_=_;omega)).kp kY2 (by show ¬_=_;omega)⟩ (fun _=>?_)
   clear hK K hHeld
   (try simp only[Act.put])
   refine wpAnyH_done (by kernel_rfl) ?_ _
   refine NoPanic.normal ?_
   go_wp2_with fail
   refine bodyPost_ret (results_row_row rfl _ _ (w.heap.size+1+1) 45 _ (0,0) _ (w.heap.size+1+1+1) 45 _ (0,0) _ rfl hYY Tryz.underlying45 rfl infoRef4 rfl hY2 Tryz.underlying45 rfl infoRef4) rfl ?_
   refine⟨?_,((K0.out.trans' KF.out (fun i hi e=>by have e':i=w.heap.size∨i=w.heap.size+1:=e;omega)).trans' kY' (fun i hi e=>by have e':i=w.heap.size+1+1:=e;omega)).trans' kY2 (fun i hi e=>by have e':i=w.heap.size+1+1+1:=e;omega)⟩
   rfl
theorem shiftedArea_core (k o':Int) (x:Nat) (s:ByteArray) (bb:Bool) (ff c1 r1:Int) (p1 q1:Bool) (c2 r2:Int) (p2 q2:Bool) (sl:Value) (X Y A B:Int) (P Q O:Bool) (A' B':Int) (P' Q' O':Bool) (E1 F1 E2 F2:Int) (G1 H1 G2 H2:Bool) (w:World) (hs:sl.oneCell'=true)
  (HSh:Hid (∀wq,Calls Tryz.prog 172 #[.agg #[.int .i64 c1,.int .i64 r1,.bool p1,.bool q1],.int .i64 X,.int .i64 Y] wq fun e w'=>e=.returned (.tuple #[.agg #[.int .i64 A,.int .i64 B,.bool P,.bool Q],.bool O])/\Kp wq w' Nul))
  (HSh':Hid (∀wq,Calls Tryz.prog 172 #[.agg #[.int .i64 c2,.int .i64 r2,.bool p2,.bool q2],.int .i64 X,.int .i64 Y] wq fun e w'=>e=.returned (.tuple #[.agg #[.int .i64 A',.int .i64 B',.bool P',.bool Q'],.bool O'])/\Kp wq w' Nul))
  (HSe:Hid (∀wq,Calls Tryz.prog 174 #[.agg #[.int .i64 A,.int .i64 B,.bool P,.bool Q],.agg #[.int .i64 A',.int .i64 B',.bool P',.bool Q']] wq fun e w'=>e=.returned (.tuple #[.agg #[.int .i64 E1,.int .i64 F1,.bool G1,.bool H1],.agg #[.int .i64 E2,.int .i64 F2,.bool G2,.bool H2]])/\Kp wq w' Nul)) :
  Calls Tryz.prog 156 #[.agg #[.int .i64 k,.int .i64 o',.float .f64 x,.string s,.bool bb,.int .i64 ff,.int .i64 c1,.int .i64 r1,.bool p1,.bool q1,.int .i64 c2,.int .i64 r2,.bool p2,.bool q2,sl],.int .i64 X,.int .i64 Y] w fun e w'=>e=.returned (if O=true then (if O'=true then .agg #[.int .i64 k,.int .i64 o',.float .f64 x,.string s,.bool bb,.int .i64 ff,.int .i64 E1,.int .i64 F1,.bool G1,.bool H1,.int .i64 E2,.int .i64 F2,.bool G2,.bool H2,sl] else ndF.hd.val (.slice none 0 0)) else ndF.hd.val (.slice none 0 0))/\Kp w w' Nul:=by
 have O1:Hid (sl.oneCell'=true):=hs
 have HNo:Hid (∀wq,Calls Tryz.prog 173 #[] wq fun e w'=>e=.returned (ndF.hd.val (.slice none 0 0))/\Kp wq w' Nul):=noCell_at
 clear hs
 obtain⟨W0,hW0⟩:∃W0,(w.alloc (.cells #[.int .i64 k,.int .i64 o',.float .f64 x,.string s,.bool bb,.int .i64 ff,.int .i64 c1,.int .i64 r1,.bool p1,.bool q1,.int .i64 c2,.int .i64 r2,.bool p2,.bool q2,sl] 48)).alloc (.cells #[.int .i64 0,.int .i64 0,.float .f64 0,.string ⟨#[]⟩,.bool false,.int .i64 0,.int .i64 0,.int .i64 0,.bool false,.bool false,.int .i64 0,.int .i64 0,.bool false,.bool false,.slice none 0 0] 48)=W0:=⟨_,rfl⟩
 have HW0:Hid ((w.alloc (.cells #[.int .i64 k,.int .i64 o',.float .f64 x,.string s,.bool bb,.int .i64 ff,.int .i64 c1,.int .i64 r1,.bool p1,.bool q1,.int .i64 c2,.int .i64 r2,.bool p2,.bool q2,sl] 48)).alloc (.cells #[.int .i64 0,.int .i64 0,.float .f64 0,.string ⟨#[]⟩,.bool false,.int .i64 0,.int .i64 0,.int .i64 0,.bool false,.bool false,.int .i64 0,.int .i64 0,.bool false,.bool false,.slice none 0 0] 48)=W0):=hW0
 have K0:Hid (Kp w W0 Nul):=by show Kp _ _ _;rw[<- hW0];exact Kp.new2 _ _ _ _
 have S0:Hid (W0.heap.size=w.heap.size+2):=by show _=_;rw[<- hW0];simp
 have HN0:Hid (∀X,Kp W0 X Nul->Blk X w.heap.size [.int .i64 k,.int .i64 o',.float .f64 x,.string s,.bool bb,.int .i64 ff,.int .i64 c1,.int .i64 r1,.bool p1,.bool q1,.int .i64 c2,.int .i64 r2,.bool p2,.bool q2,sl] 48):=fun U hq=>by
  have:Blk W0 w.heap.size [.int .i64 k,.int .i64 o',.float .f64 x,.string s,.bool bb,.int .i64 ff,.int .i64 c1,.int .i64 r1,.bool p1,.bool q1,.int .i64 c2,.int .i64 r2,.bool p2,.bool q2,sl] 48:=by rw[<- hW0];exact(Blk.new w [.int .i64 k,.int .i64 o',.float .f64 x,.string s,.bool bb,.int .i64 ff,.int .i64 c1,.int .i64 r1,.bool p1,.bool q1,.int .i64 c2,.int .i64 r2,.bool p2,.bool q2,sl] 48).alloc _
  exact this.kp hq (fun x=>x)
 have HZ0:Hid (∀X,Kp W0 X Nul->Blk X (w.heap.size+1) [.int .i64 0,.int .i64 0,.float .f64 0,.string ⟨#[]⟩,.bool false,.int .i64 0,.int .i64 0,.int .i64 0,.bool false,.bool false,.int .i64 0,.int .i64 0,.bool false,.bool false,.slice none 0 0] 48):=fun U hq=>by
  have:Blk W0 (w.heap.size+1) [.int .i64 0,.int .i64 0,.float .f64 0,.string ⟨#[]⟩,.bool false,.int .i64 0,.int .i64 0,.int .i64 0,.bool false,.bool false,.int .i64 0,.int .i64 0,.bool false,.bool false,.slice none 0 0] 48:=by
   rw[<- hW0]
   have:=Blk.new (w.alloc (.cells #[.int .i64 k,.int .i64 o',.float .f64 x,.string s,.bool bb,.int .i64 ff,.int .i64 c1,.int .i64 r1,.bool p1,.bool q1,.int .i64 c2,.int .i64 r2,.bool p2,.bool q2,sl] 48)) [.int .i64 0,.int .i64 0,.float .f64 0,.string ⟨#[]⟩,.bool false,.int .i64 0,.int .i64 0,.int .i64 0,.bool false,.bool false,.int .i64 0,.int .i64 0,.bool false,.bool false,.slice none 0 0] 48
   rw[World.size_alloc] at this
   exact this
  exact this.kp hq (fun x=>x)
 have HR0:Hid (W0.rangeAt w.heap.size 6 [.int .i64 c1,.int .i64 r1,.bool p1,.bool q1]):=rangeAt_mid (pre:=[.int .i64 k,.int .i64 o',.float .f64 x,.string s,.bool bb,.int .i64 ff]) (post:=[.int .i64 c2,.int .i64 r2,.bool p2,.bool q2,sl]) (HN0.out W0 (Kp.refl _ _))
 clear hW0
 go_enter Tryz.func156,Tryz.ntmps156
 go_wp2_with (first
  | (refine wpList_load_mid rfl 45 (.tmp 11) rfl w.heap.size 6 rfl [.int .i64 c1,.int .i64 r1,.bool p1,.bool q1] _ HR0.out Tryz.underlying45 rfl infoRef4 ?_)
  | fail)
 rw[HW0.out]
 refine(HSh.out _).mono ?_
 rintro e w1 ⟨rfl,hk1⟩
 obtain⟨W2,hW2⟩:∃W2,w1.alloc (.cells #[.int .i64 A,.int .i64 B,.bool P,.bool Q] 45)=W2:=⟨_,rfl⟩
 have HW2:Hid (w1.alloc (.cells #[.int .i64 A,.int .i64 B,.bool P,.bool Q] 45)=W2):=hW2
 have K2:Hid (Kp W0 W2 Nul):=by show Kp _ _ _;rw[<- hW2];exact hk1.alloc _
 have S1:Hid (w.heap.size+2<=w1.heap.size):=by have:=hk1.size;rw[S0.out] at this;exact this
 have HB2:Hid (Blk W2 w1.heap.size [.int .i64 A,.int .i64 B,.bool P,.bool Q] 45):=by show Blk _ _ _ _;rw[<- hW2];exact Blk.new w1 _ _
 clear hk1 hW2 HW0 HR0 HSh
 cases O with
 | false=>
  go_wp2_with fail
  rw[HW2.out]
  go_wp2_with fail
  refine(HNo.out _).mono ?_
  rintro e w5 ⟨rfl,hk5⟩
  have K5:Hid (Kp W0 w5 Nul):=K2.out.trans hk5
  have HZ5:Hid (Blk w5 (w.heap.size+1) [.int .i64 0,.int .i64 0,.float .f64 0,.string ⟨#[]⟩,.bool false,.int .i64 0,.int .i64 0,.int .i64 0,.bool false,.bool false,.int .i64 0,.int .i64 0,.bool false,.bool false,.slice none 0 0] 48):=HZ0.out w5 K5.out
  clear hk5
  go_wp2_with (first
   | (refine wpList_store_blk rfl 48 (.tmp 6) (.tmp 20) rfl (w.heap.size+1) _ [.int .i64 4,.int .i64 0,.float .f64 0,.string ⟨#[]⟩,.bool false,.int .i64 4,.int .i64 0,.int .i64 0,.bool false,.bool false,.int .i64 0,.int .i64 0,.bool false,.bool false,.slice none 0 0] _ HZ5.out rfl rfl rfl infoNode (Hd.one ⟨4,0,0,⟨#[]⟩,false,4,0,0,false,false,0,0,false,false⟩ rfl) ?_;intro W6 hb6 hk6)
   | fail)
  refine bodyPost_ret (results_cell_row rfl _ _ (w.heap.size+1) 48 _ (0,0) _ rfl hb6 Tryz.underlying48 rfl infoNode) rfl ?_
  exact⟨rfl,(K0.out.trans K5.out).trans' hk6 (fun i hi e=>by have e':i=w.heap.size+1:=e;omega)⟩
 | true=>
  have HR2:Hid (W2.rangeAt w.heap.size 10 [.int .i64 c2,.int .i64 r2,.bool p2,.bool q2]):=rangeAt_mid (pre:=[.int .i64 k,.int .i64 o',.float .f64 x,.string s,.bool bb,.int .i64 ff,.int .i64 c1,.int .i64 r1,.bool p1,.bool q1]) (post:=[sl]) (HN0.out W2 K2.out)
  go_wp2_with (first
   | (rw[HW2.out])
   | (refine wpList_load_mid rfl 45 (.tmp 22) rfl w.heap.size 10 rfl [.int .i64 c2,.int .i64 r2,.bool p2,.bool q2] _ HR2.out Tryz.underlying45 rfl infoRef4 ?_)
   | fail)
  refine(HSh'.out _).mono ?_
  rintro e w3 ⟨rfl,hk3⟩
  obtain⟨W4,hW4⟩:∃W4,w3.alloc (.cells #[.int .i64 A',.int .i64 B',.bool P',.bool Q'] 45)=W4:=⟨_,rfl⟩
  have HW4:Hid (w3.alloc (.cells #[.int .i64 A',.int .i64 B',.bool P',.bool Q'] 45)=W4):=hW4
  have k4:Kp W2 W4 Nul:=by rw[<- hW4];exact hk3.alloc _
  have K4:Hid (Kp W0 W4 Nul):=K2.out.trans k4
  have S3:Hid (w1.heap.size<w3.heap.size):=Nat.lt_of_lt_of_le HB2.out.lt hk3.size
  have HB4:Hid (Blk W4 w3.heap.size [.int .i64 A',.int .i64 B',.bool P',.bool Q'] 45):=by show Blk _ _ _ _;rw[<- hW4];exact Blk.new w3 _ _
  have HC4:Hid (Blk W4 w1.heap.size [.int .i64 A,.int .i64 B,.bool P,.bool Q] 45):=HB2.out.kp k4 (fun x=>x)
  clear hk3 hW4 k4 HW2 HR2 HSh'
  cases O' with
  | false=>
   go_wp2_with fail
   rw[HW4.out]
   go_wp2_with fail
   refine(HNo.out _).mono ?_
   rintro e w5 ⟨rfl,hk5⟩
   have K5:Hid (Kp W0 w5 Nul):=K4.out.trans hk5
   have HZ5:Hid (Blk w5 (w.heap.size+1) [.int .i64 0,.int .i64 0,.float .f64 0,.string ⟨#[]⟩,.bool false,.int .i64 0,.int .i64 0,.int .i64 0,.bool false,.bool false,.int .i64 0,.int .i64 0,.bool false,.bool false,.slice none 0 0] 48):=HZ0.out w5 K5.out
   clear hk5
   go_wp2_with (first
    | (refine wpList_store_blk rfl 48 (.tmp 6) (.tmp 31) rfl (w.heap.size+1) _ [.int .i64 4,.int .i64 0,.float .f64 0,.string ⟨#[]⟩,.bool false,.int .i64 4,.int .i64 0,.int .i64 0,.bool false,.bool false,.int .i64 0,.int .i64 0,.bool false,.bool false,.slice none 0 0] _ HZ5.out rfl rfl rfl infoNode (Hd.one ⟨4,0,0,⟨#[]⟩,false,4,0,0,false,false,0,0,false,false⟩ rfl) ?_;intro W6 hb6 hk6)
    | fail)
   refine bodyPost_ret (results_cell_row rfl _ _ (w.heap.size+1) 48 _ (0,0) _ rfl hb6 Tryz.underlying48 rfl infoNode) rfl ?_
   exact⟨rfl,(K0.out.trans K5.out).trans' hk6 (fun i hi e=>by have e':i=w.heap.size+1:=e;omega)⟩
  | true=>
   have HN4:Hid (Blk W4 w.heap.size [.int .i64 k,.int .i64 o',.float .f64 x,.string s,.bool bb,.int .i64 ff,.int .i64 c1,.int .i64 r1,.bool p1,.bool q1,.int .i64 c2,.int .i64 r2,.bool p2,.bool q2,sl] 48):=HN0.out W4 K4.out
   have HZ4:Hid (Blk W4 (w.heap.size+1) [.int .i64 0,.int .i64 0,.float .f64 0,.string ⟨#[]⟩,.bool false,.int .i64 0,.int .i64 0,.int .i64 0,.bool false,.bool false,.int .i64 0,.int .i64 0,.bool false,.bool false,.slice none 0 0] 48):=HZ0.out W4 K4.out
   go_wp2_with (first
    | (rw[HW4.out])
    | (refine wpList_load_mid rfl 45 (.tmp 7) rfl w1.heap.size 0 rfl [.int .i64 A,.int .i64 B,.bool P,.bool Q] _ (blk_range HC4.out) Tryz.underlying45 rfl infoRef4 ?_)
    | (refine wpList_load_mid rfl 45 (.tmp 9) rfl w3.heap.size 0 rfl [.int .i64 A',.int .i64 B',.bool P',.bool Q'] _ (blk_range HB4.out) Tryz.underlying45 rfl infoRef4 ?_)
    | fail)
   refine(HSe.out _).mono ?_
   rintro e w5 ⟨rfl,hk5⟩
   have HN5:Hid (Blk w5 w.heap.size [.int .i64 k,.int .i64 o',.float .f64 x,.string s,.bool bb,.int .i64 ff,.int .i64 c1,.int .i64 r1,.bool p1,.bool q1,.int .i64 c2,.int .i64 r2,.bool p2,.bool q2,sl] 48):=HN4.out.kp hk5 (fun x=>x)
   have HZ5:Hid (Blk w5 (w.heap.size+1) [.int .i64 0,.int .i64 0,.float .f64 0,.string ⟨#[]⟩,.bool false,.int .i64 0,.int .i64 0,.int .i64 0,.bool false,.bool false,.int .i64 0,.int .i64 0,.bool false,.bool false,.slice none 0 0] 48):=HZ4.out.kp hk5 (fun x=>x)
   have K5:Hid (Kp W0 w5 Nul):=K4.out.trans hk5
   clear hk5 HN4 HZ4 HC4 HB4 HW4 HSe
   go_wp2_with (first
    | (refine wpList_store_part rfl 45 (.tmp 38) (.tmp 36) rfl w.heap.size 6 [.int .i64 k,.int .i64 o',.float .f64 x,.string s,.bool bb,.int .i64 ff] [.int .i64 c1,.int .i64 r1,.bool p1,.bool q1] [.int .i64 c2,.int .i64 r2,.bool p2,.bool q2,sl] [.int .i64 E1,.int .i64 F1,.bool G1,.bool H1] _ HN5.out rfl rfl rfl rfl infoRef4 (ref_ones _ _ _ _) ?_;intro W6 hb6 hk6;have HG1:Hid (Blk W6 w.heap.size [.int .i64 k,.int .i64 o',.float .f64 x,.string s,.bool bb,.int .i64 ff,.int .i64 E1,.int .i64 F1,.bool G1,.bool H1,.int .i64 c2,.int .i64 r2,.bool p2,.bool q2,sl] 48):=hb6;have HG2:Hid (Blk W6 (w.heap.size+1) [.int .i64 0,.int .i64 0,.float .f64 0,.string ⟨#[]⟩,.bool false,.int .i64 0,.int .i64 0,.int .i64 0,.bool false,.bool false,.int .i64 0,.int .i64 0,.bool false,.bool false,.slice none 0 0] 48):=HZ5.out.kp hk6 (by show ¬(w.heap.size+1)=w.heap.size;omega);have KG:Hid (Kp w W6 Nul):=(K0.out.trans K5.out).trans' hk6 (fun i hi e=>by have e':i=w.heap.size:=e;omega);clear hb6 hk6)
    | (refine wpList_store_part rfl 45 (.tmp 39) (.tmp 37) rfl w.heap.size 10 [.int .i64 k,.int .i64 o',.float .f64 x,.string s,.bool bb,.int .i64 ff,.int .i64 E1,.int .i64 F1,.bool G1,.bool H1] [.int .i64 c2,.int .i64 r2,.bool p2,.bool q2] [sl] [.int .i64 E2,.int .i64 F2,.bool G2,.bool H2] _ HG1.out rfl rfl rfl rfl infoRef4 (ref_ones _ _ _ _) ?_;intro W7 hb7 hk7;have HH1:Hid (Blk W7 w.heap.size [.int .i64 k,.int .i64 o',.float .f64 x,.string s,.bool bb,.int .i64 ff,.int .i64 E1,.int .i64 F1,.bool G1,.bool H1,.int .i64 E2,.int .i64 F2,.bool G2,.bool H2,sl] 48):=hb7;have HH2:Hid (Blk W7 (w.heap.size+1) [.int .i64 0,.int .i64 0,.float .f64 0,.string ⟨#[]⟩,.bool false,.int .i64 0,.int .i64 0,.int .i64 0,.bool false,.bool false,.int .i64 0,.int .i64 0,.bool false,.bool false,.slice none 0 0] 48):=HG2.out.kp hk7 (by show ¬(w.heap.size+1)=w.heap.size;omega);have KH:Hid (Kp w W7 Nul):=KG.out.trans' hk7 (fun i hi e=>by have e':i=w.heap.size:=e;omega);clear hb7 hk7)
    | (refine wpList_load_mid rfl 48 (.tmp 3) rfl w.heap.size 0 rfl [.int .i64 k,.int .i64 o',.float .f64 x,.string s,.bool bb,.int .i64 ff,.int .i64 E1,.int .i64 F1,.bool G1,.bool H1,.int .i64 E2,.int .i64 F2,.bool G2,.bool H2,sl] _ (blk_range HH1.out) Tryz.underlying48 rfl infoNode ?_)
    | (refine wpList_store_blk rfl 48 (.tmp 6) (.tmp 40) rfl (w.heap.size+1) _ [.int .i64 k,.int .i64 o',.float .f64 x,.string s,.bool bb,.int .i64 ff,.int .i64 E1,.int .i64 F1,.bool G1,.bool H1,.int .i64 E2,.int .i64 F2,.bool G2,.bool H2,sl] _ HH2.out rfl rfl rfl infoNode (Hd.one ⟨k,o',x,s,bb,ff,E1,F1,G1,H1,E2,F2,G2,H2⟩ O1.out) ?_;intro W9 hb9 hk9)
    | fail)
   refine bodyPost_ret (results_cell_row rfl _ _ (w.heap.size+1) 48 _ (0,0) _ rfl hb9 Tryz.underlying48 rfl infoNode) rfl ?_
   exact⟨rfl,KH.out.trans' hk9 (fun i hi e=>by have e':i=w.heap.size+1:=e;omega)⟩
theorem shift_parts (c r X Y:Int) (p q:Bool) (hX:I64 X) (hY:I64 Y) (w:World) :
  Calls Tryz.prog 172 #[.agg #[.int .i64 c,.int .i64 r,.bool p,.bool q],.int .i64 X,.int .i64 Y] w fun e w'=>e=.returned (.tuple #[.agg #[.int .i64 (if shOk c r p q X Y=true then (shN c X 256 p).1 else 0),.int .i64 (if shOk c r p q X Y=true then (shN r Y 4096 q).1 else 0),.bool (if shOk c r p q X Y=true then p else false),.bool (if shOk c r p q X Y=true then q else false)],.bool (shOk c r p q X Y)])/\Kp w w' Nul:=by
 refine(pShift_any c r X Y p q hX.1 hX.2 hY.1 hY.2 w).mono ?_
 rintro e w' ⟨rfl,h⟩
 refine⟨?_,Kp.of_gr h⟩
 unfold shV refV
 split <;> rfl
theorem shiftedRef_at (X Y:Int) (hX:I64 X) (hY:I64 Y) (hd:Hd) (hk:hd.k=5) (ts:List Nd) (sl:Value) (hs:sl.oneCell'=true) (w:World) :
  Calls Tryz.prog 155 #[hd.val sl,.int .i64 X,.int .i64 Y] w fun e w'=>e=.returned ((tmN (shH X Y) (.mk hd ts)).hd.val (tmS (shH X Y) hd sl))/\Kp w w' Nul:=by
 obtain⟨k,o',x,s,bb,ff,c1,r1,p1,q1,c2,r2,p2,q2⟩:=hd
 have hk':k=5:=hk
 subst hk'
 refine(shiftedRef_core 5 o' x s bb ff c1 r1 p1 q1 c2 r2 p2 q2 sl X Y _ _ _ _ _ w hs (fun wq=>shift_parts c1 r1 X Y p1 q1 hX hY wq)).mono ?_
 rintro e w' ⟨rfl,h⟩
 refine⟨?_,h⟩
 have e:=shH_one X Y ⟨5,o',x,s,bb,ff,c1,r1,p1,q1,c2,r2,p2,q2⟩ (show ¬(5:Int)=6 by decide)
 unfold tmN tmS
 simp only[Nd.hd]
 rw[e]
 by_cases hO:shOk c1 r1 p1 q1 X Y=true
 ·simp only[if_pos hO]
 ·simp only[if_neg hO]
theorem shiftedArea_at (X Y:Int) (hX:I64 X) (hY:I64 Y) (hd:Hd) (hk:hd.k=6) (ts:List Nd) (sl:Value) (hs:sl.oneCell'=true) (w:World) :
  Calls Tryz.prog 156 #[hd.val sl,.int .i64 X,.int .i64 Y] w fun e w'=>e=.returned ((tmN (shH X Y) (.mk hd ts)).hd.val (tmS (shH X Y) hd sl))/\Kp w w' Nul:=by
 obtain⟨k,o',x,s,bb,ff,c1,r1,p1,q1,c2,r2,p2,q2⟩:=hd
 have hk':k=6:=hk
 subst hk'
 refine(shiftedArea_core 6 o' x s bb ff c1 r1 p1 q1 c2 r2 p2 q2 sl X Y _ _ _ _ _ _ _ _ _ _ _ _ _ _ _ _ _ _ w hs (fun wq=>shift_parts c1 r1 X Y p1 q1 hX hY wq) (fun wq=>shift_parts c2 r2 X Y p2 q2 hX hY wq) (fun wq=>setRight_at _ _ _ _ _ _ _ _ wq)).mono ?_
 rintro e w' ⟨rfl,h⟩
 refine⟨?_,h⟩
 have e:=shH_two X Y ⟨6,o',x,s,bb,ff,c1,r1,p1,q1,c2,r2,p2,q2⟩ rfl
 unfold tmN tmS
 simp only[Nd.hd]
 rw[e]
 by_cases hO:shOk c1 r1 p1 q1 X Y=true
 ·by_cases hO':shOk c2 r2 p2 q2 X Y=true
  ·simp only[if_pos hO,if_pos hO',if_pos (And.intro hO hO')]
  ·simp only[if_pos hO,if_neg hO',if_neg (fun e:_/\_=>hO' e.2)]
 ·simp only[if_neg hO,if_neg (fun e:_/\_=>hO e.1)]
theorem shifted_any (X Y:Int) (hX:I64 X) (hY:I64 Y) (N:Nat):∀(t:Nd) (sl:Value) (fp:List Nat) (w:World),t.size<=N->NdOwn w sl t fp->fp.Nodup ->
  Calls Tryz.prog 135 #[t.hd.val sl,.int .i64 X,.int .i64 Y] w fun e w'=>∃sl' fp',e=.returned ((hmN (shH X Y) t).hd.val sl')/\HmR (shH X Y) t fp w w' sl' fp':=by
 induction N with
 | zero=>intro t sl fp w h;have:=size_pos t;omega
 | succ N ih=>
  intro t sl fp w hN hown hnd
  have IH:Hid (∀(t:Nd) (sl:Value) (fp:List Nat) (w:World),t.size<=N->NdOwn w sl t fp->fp.Nodup ->
   Calls Tryz.prog 135 #[t.hd.val sl,.int .i64 X,.int .i64 Y] w fun e w'=>∃sl' fp',e=.returned ((hmN (shH X Y) t).hd.val sl')/\HmR (shH X Y) t fp w w' sl' fp'):=ih
  have H5:Hid (∀(hd:Hd),hd.k=5->∀(ts:List Nd) (sl:Value),sl.oneCell'=true->∀w,Calls Tryz.prog 155 #[hd.val sl,.int .i64 X,.int .i64 Y] w fun e w'=>e=.returned ((tmN (shH X Y) (.mk hd ts)).hd.val (tmS (shH X Y) hd sl))/\Kp w w' Nul):=fun hd hk ts sl hs w=>shiftedRef_at X Y hX hY hd hk ts sl hs w
  have H6:Hid (∀(hd:Hd),hd.k=6->∀(ts:List Nd) (sl:Value),sl.oneCell'=true->∀w,Calls Tryz.prog 156 #[hd.val sl,.int .i64 X,.int .i64 Y] w fun e w'=>e=.returned ((tmN (shH X Y) (.mk hd ts)).hd.val (tmS (shH X Y) hd sl))/\Kp w w' Nul):=fun hd hk ts sl hs w=>shiftedArea_at X Y hX hY hd hk ts sl hs w
  generalize shH X Y=f at *
  have O1:Hid (sl.oneCell'=true):=hown.one
  have HOwn:Hid (NdOwn w sl t fp):=hown
  have HNd:Hid (fp.Nodup):=hnd
  have HN:Hid (t.size<=N+1):=hN
  clear ih hown hnd hN hX hY
  obtain⟨hd,ts⟩:=t
  change Calls Tryz.prog 135 #[hd.val sl,.int .i64 X,.int .i64 Y] w _
  obtain⟨W0,hW0⟩:∃W0,(w.alloc (.cells (hd.cells sl).toArray 48)).alloc (.cells #[.int .i64 0,.int .i64 0,.float .f64 0,.string ⟨#[]⟩,.bool false,.int .i64 0,.int .i64 0,.int .i64 0,.bool false,.bool false,.int .i64 0,.int .i64 0,.bool false,.bool false,.slice none 0 0] 48)=W0:=⟨_,rfl⟩
  have k0:Hid (Kp w W0 Nul):=by show Kp _ _ _;rw[<- hW0];exact((Kp.refl w Nul).alloc _).alloc _
  have b1:Hid (Blk W0 w.heap.size (hd.cells sl) 48):=by show Blk _ _ _ _;rw[<- hW0];exact(Blk.new w _ _).alloc _
  have b2:Hid (Blk W0 (w.heap.size+1) [.int .i64 0,.int .i64 0,.float .f64 0,.string ⟨#[]⟩,.bool false,.int .i64 0,.int .i64 0,.int .i64 0,.bool false,.bool false,.int .i64 0,.int .i64 0,.bool false,.bool false,.slice none 0 0] 48):=by
   show Blk _ _ _ _;rw[<- hW0]
   have:=Blk.new (w.alloc (.cells (hd.cells sl).toArray 48)) [.int .i64 0,.int .i64 0,.float .f64 0,.string ⟨#[]⟩,.bool false,.int .i64 0,.int .i64 0,.int .i64 0,.bool false,.bool false,.int .i64 0,.int .i64 0,.bool false,.bool false,.slice none 0 0] 48
   rw[World.size_alloc] at this
   exact this
  obtain⟨k,o',x,s,bb,ff,c1,r1,p1,q1,c2,r2,p2,q2⟩:=hd
  by_cases hk:k=5∨k=6
  ·rcases hk with hk|hk
   ·subst hk
    have y0:W0.cell? ⟨w.heap.size,0,none⟩=some (.int .i64 5):=b1.out.cell rfl
    have hal:hmN f (.mk ⟨5,o',x,s,bb,ff,c1,r1,p1,q1,c2,r2,p2,q2⟩ ts)=tmN f (.mk ⟨5,o',x,s,bb,ff,c1,r1,p1,q1,c2,r2,p2,q2⟩ ts):=by rw[hmN,if_pos (by simp)]
    have HR:Hid (∀w',Kp w w' Nul->HmR f (.mk ⟨5,o',x,s,bb,ff,c1,r1,p1,q1,c2,r2,p2,q2⟩ ts) fp w w' (tmS f ⟨5,o',x,s,bb,ff,c1,r1,p1,q1,c2,r2,p2,q2⟩ sl) (tmFp f ⟨5,o',x,s,bb,ff,c1,r1,p1,q1,c2,r2,p2,q2⟩ fp)):=fun w' kw=>tm_own f ⟨5,o',x,s,bb,ff,c1,r1,p1,q1,c2,r2,p2,q2⟩ ts sl fp w w' HOwn.out kw (by simp)
    have HCl:Hid (Calls Tryz.prog 155 #[Hd.val ⟨5,o',x,s,bb,ff,c1,r1,p1,q1,c2,r2,p2,q2⟩ sl,.int .i64 X,.int .i64 Y] W0 fun e w'=>e=.returned ((tmN f (.mk ⟨5,o',x,s,bb,ff,c1,r1,p1,q1,c2,r2,p2,q2⟩ ts)).hd.val (tmS f ⟨5,o',x,s,bb,ff,c1,r1,p1,q1,c2,r2,p2,q2⟩ sl))/\Kp W0 w' Nul):=H5.out ⟨5,o',x,s,bb,ff,c1,r1,p1,q1,c2,r2,p2,q2⟩ rfl ts sl O1.out W0
    have OS:Hid ((tmS f ⟨5,o',x,s,bb,ff,c1,r1,p1,q1,c2,r2,p2,q2⟩ sl).oneCell'=true):=by
     show _=_;unfold tmS;split
     ·rfl
     ·exact O1.out
    rw[hal]
    clear H5 H6 HOwn HNd HN IH hal
    generalize (tmN f (.mk ⟨5,o',x,s,bb,ff,c1,r1,p1,q1,c2,r2,p2,q2⟩ ts)).hd=hh at *
    generalize tmS f ⟨5,o',x,s,bb,ff,c1,r1,p1,q1,c2,r2,p2,q2⟩ sl=sl2 at *
    generalize tmFp f ⟨5,o',x,s,bb,ff,c1,r1,p1,q1,c2,r2,p2,q2⟩ fp=fp2 at *
    go_enter Tryz.func135,Tryz.ntmps135
    go_wp2_with (first|(refine wpList_load_mid rfl 48 (.tmp 3) rfl w.heap.size 0 rfl (Hd.cells ⟨5,o',x,s,bb,ff,c1,r1,p1,q1,c2,r2,p2,q2⟩ sl) _ (blk_range b1.out) Tryz.underlying48 rfl infoNode ?_)|fail)
    refine HCl.out.mono ?_
    rintro e w1 ⟨rfl,hk1⟩
    have b2':=b2.out.kp hk1 (fun x=>x)
    have HB2:Hid (Blk w1 (w.heap.size+1) [.int .i64 0,.int .i64 0,.float .f64 0,.string ⟨#[]⟩,.bool false,.int .i64 0,.int .i64 0,.int .i64 0,.bool false,.bool false,.int .i64 0,.int .i64 0,.bool false,.bool false,.slice none 0 0] 48):=b2'
    clear b2'
    go_wp2_with (first|(refine wpList_store_blk rfl 48 (.tmp 6) (.tmp 16) rfl (w.heap.size+1) _ (hh.cells sl2) _ HB2.out rfl rfl rfl infoNode (hh.one OS.out) ?_;intro w2 hb2 hk2)|fail)
    refine bodyPost_ret (results_cell_row rfl _ _ (w.heap.size+1) 48 _ (0,0) _ rfl hb2 Tryz.underlying48 rfl infoNode) rfl ?_
    exact⟨sl2,fp2,rfl,HR.out w2 ((k0.out.trans hk1).trans' hk2 (fun i hi e=>by have:i=w.heap.size+1:=e;omega))⟩
   ·subst hk
    have y0:W0.cell? ⟨w.heap.size,0,none⟩=some (.int .i64 6):=b1.out.cell rfl
    have hal:hmN f (.mk ⟨6,o',x,s,bb,ff,c1,r1,p1,q1,c2,r2,p2,q2⟩ ts)=tmN f (.mk ⟨6,o',x,s,bb,ff,c1,r1,p1,q1,c2,r2,p2,q2⟩ ts):=by rw[hmN,if_pos (by simp)]
    have HR:Hid (∀w',Kp w w' Nul->HmR f (.mk ⟨6,o',x,s,bb,ff,c1,r1,p1,q1,c2,r2,p2,q2⟩ ts) fp w w' (tmS f ⟨6,o',x,s,bb,ff,c1,r1,p1,q1,c2,r2,p2,q2⟩ sl) (tmFp f ⟨6,o',x,s,bb,ff,c1,r1,p1,q1,c2,r2,p2,q2⟩ fp)):=fun w' kw=>tm_own f ⟨6,o',x,s,bb,ff,c1,r1,p1,q1,c2,r2,p2,q2⟩ ts sl fp w w' HOwn.out kw (by simp)
    have HCl:Hid (Calls Tryz.prog 156 #[Hd.val ⟨6,o',x,s,bb,ff,c1,r1,p1,q1,c2,r2,p2,q2⟩ sl,.int .i64 X,.int .i64 Y] W0 fun e w'=>e=.returned ((tmN f (.mk ⟨6,o',x,s,bb,ff,c1,r1,p1,q1,c2,r2,p2,q2⟩ ts)).hd.val (tmS f ⟨6,o',x,s,bb,ff,c1,r1,p1,q1,c2,r2,p2,q2⟩ sl))/\Kp W0 w' Nul):=H6.out ⟨6,o',x,s,bb,ff,c1,r1,p1,q1,c2,r2,p2,q2⟩ rfl ts sl O1.out W0
    have OS:Hid ((tmS f ⟨6,o',x,s,bb,ff,c1,r1,p1,q1,c2,r2,p2,q2⟩ sl).oneCell'=true):=by
     show _=_;unfold tmS;split
     ·rfl
     ·exact O1.out
    rw[hal]
    clear H5 H6 HOwn HNd HN IH hal
    generalize (tmN f (.mk ⟨6,o',x,s,bb,ff,c1,r1,p1,q1,c2,r2,p2,q2⟩ ts)).hd=hh at *
    generalize tmS f ⟨6,o',x,s,bb,ff,c1,r1,p1,q1,c2,r2,p2,q2⟩ sl=sl2 at *
    generalize tmFp f ⟨6,o',x,s,bb,ff,c1,r1,p1,q1,c2,r2,p2,q2⟩ fp=fp2 at *
    go_enter Tryz.func135,Tryz.ntmps135
    go_wp2_with (first|(refine wpList_load_mid rfl 48 (.tmp 3) rfl w.heap.size 0 rfl (Hd.cells ⟨6,o',x,s,bb,ff,c1,r1,p1,q1,c2,r2,p2,q2⟩ sl) _ (blk_range b1.out) Tryz.underlying48 rfl infoNode ?_)|fail)
    refine HCl.out.mono ?_
    rintro e w1 ⟨rfl,hk1⟩
    have b2':=b2.out.kp hk1 (fun x=>x)
    have HB2:Hid (Blk w1 (w.heap.size+1) [.int .i64 0,.int .i64 0,.float .f64 0,.string ⟨#[]⟩,.bool false,.int .i64 0,.int .i64 0,.int .i64 0,.bool false,.bool false,.int .i64 0,.int .i64 0,.bool false,.bool false,.slice none 0 0] 48):=b2'
    clear b2'
    go_wp2_with (first|(refine wpList_store_blk rfl 48 (.tmp 6) (.tmp 22) rfl (w.heap.size+1) _ (hh.cells sl2) _ HB2.out rfl rfl rfl infoNode (hh.one OS.out) ?_;intro w2 hb2 hk2)|fail)
    refine bodyPost_ret (results_cell_row rfl _ _ (w.heap.size+1) 48 _ (0,0) _ rfl hb2 Tryz.underlying48 rfl infoNode) rfl ?_
    exact⟨sl2,fp2,rfl,HR.out w2 ((k0.out.trans hk1).trans' hk2 (fun i hi e=>by have:i=w.heap.size+1:=e;omega))⟩
  ·have HK5:Hid (¬k=5):=fun e=>hk (.inl e)
   have HK6:Hid (¬k=6):=fun e=>hk (.inr e)
   have e5:(k==5)=false:=by simpa using HK5.out
   have e6:(k==6)=false:=by simpa using HK6.out
   have y0:W0.cell? ⟨w.heap.size,0,none⟩=some (.int .i64 k):=b1.out.cell rfl
   have hal:hmN f (.mk ⟨k,o',x,s,bb,ff,c1,r1,p1,q1,c2,r2,p2,q2⟩ ts)=.mk ⟨k,o',x,s,bb,ff,c1,r1,p1,q1,c2,r2,p2,q2⟩ (hmL f ts):=by rw[hmN,if_neg hk]
   rw[hal]
   have hown:=HOwn.out
   rw[NdOwn] at hown
   rcases hown with ⟨rfl,rfl,rfl⟩|⟨b,c,fps,cs,rfl,h2,h3,h4,h5,h6,rfl,h8⟩
   ·have y14:W0.cell? ⟨w.heap.size,14,none⟩=some (.slice none 0 0):=b1.out.cell rfl
    have HR:Hid (∀w',Kp w w' Nul->HmR f (.mk ⟨k,o',x,s,bb,ff,c1,r1,p1,q1,c2,r2,p2,q2⟩ []) [] w w' (.slice none 0 0) []):=fun w' kw=>⟨by rw[hal,hmL,NdOwn];exact .inl ⟨rfl,rfl,rfl⟩,List.Sublist.refl _,kw.mono (fun _ _ q=>q.elim)⟩
    clear H5 H6 IH HOwn HNd HN hal hk
    go_enter Tryz.func135,Tryz.ntmps135
    go_wp2_with fail
    go_loopw[26] (fun i wr=>i=.int .i64 0/\wr=W0) (fun _ _=>0)
    case atStart=>exact⟨rfl,rfl⟩
    case round=>
     obtain⟨rfl,rfl⟩:=hrel
     go_wp2_with (first
      | (refine wpList_load_mid rfl 48 (.tmp 3) rfl w.heap.size 0 rfl (Hd.cells ⟨k,o',x,s,bb,ff,c1,r1,p1,q1,c2,r2,p2,q2⟩ (.slice none 0 0)) _ (blk_range b1.out) Tryz.underlying48 rfl infoNode ?_)
      | (refine wpList_store_blk rfl 48 (.tmp 6) (.tmp 40) rfl (w.heap.size+1) _ (Hd.cells ⟨k,o',x,s,bb,ff,c1,r1,p1,q1,c2,r2,p2,q2⟩ (.slice none 0 0)) _ b2.out rfl rfl rfl infoNode (Hd.one ⟨k,o',x,s,bb,ff,c1,r1,p1,q1,c2,r2,p2,q2⟩ rfl) ?_;intro w2 hb2 hk2)
      | fail)
     refine bodyPost_ret (results_cell_row rfl _ _ (w.heap.size+1) 48 _ (0,0) _ rfl hb2 Tryz.underlying48 rfl infoNode) rfl ?_
     first
     | exact⟨_,HR.out w2 (k0.out.trans' hk2 (fun i hi e=>by have:i=w.heap.size+1:=e;omega))⟩
     | exact⟨_,_,rfl,HR.out w2 (k0.out.trans' hk2 (fun i hi e=>by have:i=w.heap.size+1:=e;omega))⟩
   ·have HAt0:Hid (HmAt f w W0 b c 0 ts fps [] fps):=(HmAt.start h5 h6 h8).nul k0.out
    have HCL:Hid (ts.length<=c):=h3
    have HCm:Hid (c<=maxLen):=h4
    have HNb:Hid ((b::fps).Nodup):=HNd.out
    have HTs:Hid (ts≠[]):=h2
    have HSz:Hid (sizeL ts<=N):=by show _<=_;have:=HN.out;rw[Nd.size] at this;omega
    have HLt:Hid (∀i∈b::fps,i<w.heap.size):=fun i hi=>node_lt (HOwn.out.node i hi)
    have y14:W0.cell? ⟨w.heap.size,14,none⟩=some (.slice (some ⟨b,0,none⟩) ts.length c):=b1.out.cell rfl
    have hlen:ts.length<=9223372036854775807:=by unfold maxLen at h4;omega
    generalize hn:ts.length=n at *
    have HL:Hid (ts.length=n):=hn
    have HLen:Hid (n<=9223372036854775807):=hlen
    clear H5 H6 HOwn HNd HN hal hk h2 h3 h4 h5 h6 h8 hn hlen
    go_enter Tryz.func135,Tryz.ntmps135
    go_wp2_with fail
    go_loopw[26] (fun i wr=>∃(q:Nat) (fa fb:List Nat),q<=n/\i=.int .i64 q/\HmAt f w wr b c q ts fps fa fb/\Kp W0 wr (fun i=>i∈b::fps)) (fun i _=>n-(RowKit.intOf i).toNat)
    case atStart=>exact⟨0,[],fps,Nat.zero_le _,rfl,HAt0.out,Kp.refl _ _⟩
    case round=>
     clear HAt0 y0 y14
     obtain⟨q,fa,fb,hq,rfl,hat,hkw⟩:=hrel
     have HAt:Hid (HmAt f w wr b c q ts fps fa fb):=hat
     have HKW:Hid (Kp W0 wr (fun i=>i∈b::fps)):=hkw
     have HN1:Hid (Blk wr w.heap.size (Hd.cells ⟨k,o',x,s,bb,ff,c1,r1,p1,q1,c2,r2,p2,q2⟩ (.slice (some ⟨b,0,none⟩) n c)) 48):=b1.out.kp hkw (fun e=>by have:=HLt.out _ e;omega)
     have HN2:Hid (Blk wr (w.heap.size+1) [.int .i64 0,.int .i64 0,.float .f64 0,.string ⟨#[]⟩,.bool false,.int .i64 0,.int .i64 0,.int .i64 0,.bool false,.bool false,.int .i64 0,.int .i64 0,.bool false,.bool false,.slice none 0 0] 48):=b2.out.kp hkw (fun e=>by have:=HLt.out _ e;omega)
     clear hat hkw
     by_cases hlt:q<n
     ·have hqt:q<ts.length:=by rw[HL.out];exact hlt
      obtain⟨slq,f1,f2,hrg,hno,hfb,hrs⟩:=HAt.out.next hqt
      have HRG:Hid (wr.rangeAt b (q*15) ((ts[q]).hd.cells slq)):=hrg
      have O3:Hid (slq.oneCell'=true):=hno.one
      have HFb:Hid (fb=f1++f2):=hfb
      have HRs:Hid (NdsOwn wr b ((q+1)*15) (ts.drop (q+1)) f2):=hrs
      have HF1:Hid (∀i∈f1,i∈fps):=fun i hi=>by
       obtain⟨fA,e1,_⟩:=HAt.out.sub
       rw[e1,hfb]
       exact List.mem_append_right _ (List.mem_append_left _ hi)
      have HBf:Hid (b∉f1):=fun e=>(List.nodup_cons.1 HNb.out).1 (HF1.out b e)
      have hnf:f1.Nodup:=by
       obtain⟨fA,e1,_⟩:=HAt.out.sub
       have:=(List.nodup_cons.1 HNb.out).2
       rw[e1,hfb,List.nodup_append] at this
       exact(List.nodup_append.1 this.2.1).1
      have HCall:Hid (∀wq,Kp (wr.alloc (.cells ((ts[q]).hd.cells slq).toArray 48)) wq Nul->Calls Tryz.prog 135 #[(ts[q]).hd.val slq,.int .i64 X,.int .i64 Y] wq fun e w'=>∃sl' fp',e=.returned ((hmN f ts[q]).hd.val sl')/\HmR f ts[q] f1 wq w' sl' fp'):=fun wq kq=>by
       have kk:Kp wr wq Nul:=((Kp.refl wr Nul).alloc _).trans kq
       exact IH.out ts[q] slq f1 wq (by have:=HSz.out;have:=size_get ts q hqt;omega) (hno.mono (fun i hi=>kk.block i (node_lt (hno.node i hi)) (fun x=>x))) hnf
      have hw1:w.heap.size+1<wr.heap.size:=HN2.out.lt
      have HNot:Hid ((¬w.heap.size∈f1)/\(¬wr.heap.size∈f1)):=⟨fun e=>by have:=HLt.out _ (List.mem_cons_of_mem _ (HF1.out _ e));omega,fun e=>by have:=node_lt (hno.node _ e);omega⟩
      have HNb2:Hid (b≠w.heap.size/\b≠wr.heap.size):=⟨by have:=HLt.out b List.mem_cons_self;omega,by have:=HLt.out b List.mem_cons_self;omega⟩
      have HC:Hid (q<c):=by show _<_;have:=HCL.out;omega
      have hq0:(0:Int)<=(q:Int):=by omega
      have hqn:(q:Int)<(n:Int):=by omega
      have hkb:(q:Int)+1<=9223372036854775807:=by have:=HLen.out;omega
      have HSA:Hid (Blk (wr.alloc (.cells ((ts[q]).hd.cells slq).toArray 48)) w.heap.size (Hd.cells ⟨k,o',x,s,bb,ff,c1,r1,p1,q1,c2,r2,p2,q2⟩ (.slice (some ⟨b,0,none⟩) n c)) 48/\Blk (wr.alloc (.cells ((ts[q]).hd.cells slq).toArray 48)) wr.heap.size ((ts[q]).hd.cells slq) 48):=⟨HN1.out.alloc _,Blk.new _ _ _⟩
      clear hrg hno hfb hrs hnf hw1
      obtain⟨hh,hhe⟩:∃hh,(ts[q]).hd=hh:=⟨_,rfl⟩
      rw[hhe] at HRG HCall HSA
      clear hhe
      go_wp2_with (first
       | (refine wpList_load_mid rfl 48 (.tmp 29) rfl b (q*15) rfl (hh.cells slq) _ HRG.out Tryz.underlying48 rfl infoNode ?_)
       | (refine wpList_store_new rfl 48 (.tmp 8) (.tmp 30) rfl _ _ _ _ _ (by first|rfl|simp) rfl rfl rfl infoNode (hh.one O3.out) ?_)
       | fail)
      refine wp_region_noPanic ?_
      refine wp_region_hel (fun w':World=>Blk w' w.heap.size (Hd.cells ⟨k,o',x,s,bb,ff,c1,r1,p1,q1,c2,r2,p2,q2⟩ (.slice (some ⟨b,0,none⟩) n c)) 48/\Blk w' wr.heap.size (hh.cells slq) 48) (by kernel_rfl) ⟨HSA.out.1.kp (Kp.refl _ Nul).drew (fun x=>x),HSA.out.2.kp (Kp.refl _ Nul).drew (fun x=>x)⟩ (fun hHeld=>?_)
      refine wpH_takes (i:=0) (v:=?_) (some 31) rfl rfl (by kernel_rfl) (fun _ _ _ h=>h) (Or.inl ⟨by rfl,?_⟩) hHeld ?_
      rotate_left
      ·intro w' hSw;clear hSw;go_simp;try with_reducible rfl
      simp only[Act.put,Sz0,Sz1,Sz2]
      refine wpH_takes (i:=1) (v:=?_) (some 32) rfl rfl (by kernel_rfl) (fun _ _ _ h=>h) (Or.inl ⟨by rfl,?_⟩) hHeld ?_
      rotate_left
      ·intro w' hSw;have s0:=hSw.1.cell (i:=14) rfl;clear hSw;go_simp;try with_reducible rfl
      simp only[Act.put,Sz0,Sz1,Sz2]
      refine wpH_takes (i:=2) (v:=?_) (some 33) rfl rfl (by kernel_rfl) (fun _ _ _ h=>h) (Or.inl ⟨by rfl,?_⟩) hHeld ?_
      rotate_left
      ·intro w' hSw;clear hSw;go_simp;try with_reducible rfl
      simp only[Act.put,Sz0,Sz1,Sz2]
      refine wpH_takes (i:=3) (v:=.agg (hh.cells slq).toArray) (some 34) rfl rfl (by kernel_rfl) (fun _ _ _ h=>h) (Or.inl ⟨by rfl,fun w' hSw=>exec_load_row 48 (.tmp 8) rfl wr.heap.size 0 rfl (hh.cells slq) _ (blk_range hSw.2) Tryz.underlying48 rfl infoNode⟩) hHeld ?_
      simp only[Act.put,Sz0,Sz1,Sz2]
      refine wpH_takes (i:=4) (v:=?_) (some 35) rfl rfl (by kernel_rfl) (fun _ _ _ h=>h) (Or.inl ⟨by rfl,?_⟩) hHeld ?_
      rotate_left
      ·intro w' hSw;clear hSw;go_simp;try with_reducible rfl
      simp only[Act.put,Sz0,Sz1,Sz2]
      refine wpH_takes (i:=5) (v:=?_) (some 36) rfl rfl (by kernel_rfl) (fun _ _ _ h=>h) (Or.inl ⟨by rfl,?_⟩) hHeld ?_
      rotate_left
      ·intro w' hSw;clear hSw;go_simp;try with_reducible rfl
      simp only[Act.put,Sz0,Sz1,Sz2]
      refine wpH_step (i:=6) (by kernel_rfl) rfl rfl (fun K hK=>?_)
      go_simp
      refine(HCall.out _ ((Kp.refl _ _).drew)).mono ?_
      rintro e w1 ⟨sl',f1',rfl,hR⟩
      have kA:Kp wr w1 (fun i=>i∈f1):=(((Kp.refl wr _).alloc _).drew).trans hR.kp
      have HR1:Hid (NdOwn w1 sl' (hmN f ts[q]) f1'/\f1'.Sublist f1/\Kp wr w1 (fun i=>i∈f1)):=⟨hR.own,hR.sub,kA⟩
      have HSB:Hid ((fun w':World=>Blk w' w.heap.size (Hd.cells ⟨k,o',x,s,bb,ff,c1,r1,p1,q1,c2,r2,p2,q2⟩ (.slice (some ⟨b,0,none⟩) n c)) 48/\Blk w' wr.heap.size (hh.cells slq) 48) w1):=⟨(HSA.out.1.kp (Kp.refl _ Nul).drew (fun x=>x)).kp hR.kp HNot.out.1,(HSA.out.2.kp (Kp.refl _ Nul).drew (fun x=>x)).kp hR.kp HNot.out.2⟩
      have O5:Hid (sl'.oneCell'=true):=hR.own.one
      refine hK.out _ _ HSB.out (fun hHeld=>?_)
      clear hK K hR kA HCall HSA
      have TH:Hid (w1.there b (q*15) 15):=by
       obtain⟨cs,r1,r2⟩:=HAt.out.row
       have hbn:b∉f1:=HBf.out
       exact there_of_block ((HR1.out.2.2.block b (Array.getElem?_eq_some_iff.1 r1).1 hbn).trans r1) _ _ (by have:=HC.out;omega)
      refine wpH_takes (i:=7) (v:=?_) (some 38) rfl rfl (by kernel_rfl) (fun _ _ _ h=>h) (Or.inl ⟨by rfl,?_⟩) hHeld ?_
      rotate_left
      ·intro w' hSw;clear hSw;go_simp;try with_reducible rfl
      (try simp only[Act.put,Sz0,Sz1,Sz2])
      refine wpH_step (i:=8) (by kernel_rfl) rfl rfl (fun K hK=>?_)
      have HST:Hid (HmAt f w (w1.setCells b (q*15) ((hmN f ts[q]).hd.cells sl')) b c (q+1) ts fps (fa++f1') f2):=HAt.out.step hqt (by rw[HL.out];exact HCL.out) HNb.out HFb.out HRs.out HR1.out.2.2 HR1.out.1 HR1.out.2.1
      have HKX:Hid (Kp wr (w1.setCells b (q*15) ((hmN f ts[q]).hd.cells sl')) (fun i=>i∈b::fps)):=(HR1.out.2.2.mono (fun i _ q=>List.mem_cons_of_mem _ (HF1.out i q))).trans (setCells_kp _ (by show b∈b::fps;exact List.mem_cons_self) _ _ _)
      have HSX:Hid ((fun w':World=>Blk w' w.heap.size (Hd.cells ⟨k,o',x,s,bb,ff,c1,r1,p1,q1,c2,r2,p2,q2⟩ (.slice (some ⟨b,0,none⟩) n c)) 48/\Blk w' wr.heap.size (hh.cells slq) 48) (w1.setCells b (q*15) ((hmN f ts[q]).hd.cells sl'))):=⟨HSB.out.1.kp (setCells_kp (fun i=>i=b) rfl _ _ _) (fun e=>HNb2.out.1 e.symm),HSB.out.2.kp (setCells_kp (fun i=>i=b) rfl _ _ _) (fun e=>HNb2.out.2 e.symm)⟩
      generalize (hmN f ts[q]).hd=hu at *
      refine wp_store_mid 48 (.tmp 38) (.tmp 37) rfl b (q*15) (hu.cells sl').toArray rfl rfl TH.out infoNode (hu.one O5.out) ?_
      obtain⟨X',hX⟩:∃X',w1.setCells b (q*15) (hu.cells sl')=X':=⟨_,rfl⟩
      show K _ (w1.setCells b (q*15) (hu.cells sl'))
      rw[hX] at HST HKX HSX ⊢
      refine hK.out _ _ HSX.out (fun _=>?_)
      clear hK K hX HSB TH HR1 HSX hHeld
      refine wpAnyH_done (by kernel_rfl) ?_ _
      refine NoPanic.normal ?_
      go_wp2_with fail
      go_roundw
      case rel=>exact⟨q+1,fa++f1',f2,by omega,by go_num,HST.out,HKW.out.trans HKX.out⟩
      case measure=>simp only[RowKit.intOf];omega
     ·have hqe:q=n:=by omega
      subst hqe
      have hqn:¬((q:Int)<(q:Int)):=by omega
      have HFin:Hid (∀w',Kp wr w' (fun i=>i=w.heap.size+1)->HmR f (.mk ⟨k,o',x,s,bb,ff,c1,r1,p1,q1,c2,r2,p2,q2⟩ ts) (b::fps) w w' (.slice (some ⟨b,0,none⟩) q c) (b::fa)):=fun w' kw=>by
       have hA:=HAt.out
       rw[<- HL.out] at hA
       obtain⟨f1,f2⟩:=hA.fin HTs.out (by rw[HL.out];exact HCL.out) HCm.out ⟨k,o',x,s,bb,ff,c1,r1,p1,q1,c2,r2,p2,q2⟩
       rw[HL.out] at f1
       refine⟨?_,f2,?_⟩
       ·rw[hmN,if_neg (by intro e;rcases e with e|e;exact HK5.out e;exact HK6.out e)]
        exact f1.mono (fun i hi=>kw.block i (node_lt (f1.node i hi)) (fun e=>by have:i=w.heap.size+1:=e;have:=HLt.out i (f2.subset hi);omega))
       ·exact(HAt.out.kp.of_size kw (fun i hi e=>by have:i=w.heap.size+1:=e;omega))
      clear HAt IH HCL HCm HNb HTs HSz HL HLen hlt hq
      go_wp2_with (first
       | (refine wpList_load_mid rfl 48 (.tmp 3) rfl w.heap.size 0 rfl (Hd.cells ⟨k,o',x,s,bb,ff,c1,r1,p1,q1,c2,r2,p2,q2⟩ (.slice (some ⟨b,0,none⟩) q c)) _ (blk_range HN1.out) Tryz.underlying48 rfl infoNode ?_)
       | (refine wpList_store_blk rfl 48 (.tmp 6) (.tmp 40) rfl (w.heap.size+1) _ (Hd.cells ⟨k,o',x,s,bb,ff,c1,r1,p1,q1,c2,r2,p2,q2⟩ (.slice (some ⟨b,0,none⟩) q c)) _ HN2.out rfl rfl rfl infoNode (Hd.one ⟨k,o',x,s,bb,ff,c1,r1,p1,q1,c2,r2,p2,q2⟩ rfl) ?_;intro w2 hb2 hk2)
       | fail)
      refine bodyPost_ret (results_cell_row rfl _ _ (w.heap.size+1) 48 _ (0,0) _ rfl hb2 Tryz.underlying48 rfl infoNode) rfl ?_
      first
      | exact⟨_,_,rfl,HFin.out w2 hk2⟩
      | exact⟨_,rfl,_,HFin.out w2 hk2⟩
theorem shift_core (X Y:Int) (f:Turn) (hd:Hd) (sl:Value) (t':Nd) (w:World) (hs:sl.oneCell'=true)
  (HCk:Hid (∀wq,Kp w wq Nul->Calls Tryz.prog 86 #[hd.val sl] wq fun e w'=>e=.returned (.int .i64 0)/\Kp wq w' Nul))
  (HCp:Hid (∀wq,Kp w wq Nul->Calls Tryz.prog 66 #[hd.val sl] wq fun e w'=>∃sl' fp,e=.returned (t'.hd.val sl')/\Own w' wq.heap.size sl' t' fp/\Kp wq w' Nul))
  (HSh:Hid (∀sl fp wq,NdOwn wq sl t' fp->fp.Nodup->Calls Tryz.prog 135 #[t'.hd.val sl,.int .i64 X,.int .i64 Y] wq fun e w'=>∃sl' fp',e=.returned ((hmN f t').hd.val sl')/\HmR f t' fp wq w' sl' fp')) :
  Calls Tryz.prog 99 #[hd.val sl,.int .i64 X,.int .i64 Y] w fun e w'=>∃sl' fp,e=.returned (.tuple #[(hmN f t').hd.val sl',.int .i64 0])/\Own w' w.heap.size sl' (hmN f t') fp/\Kp w w' Nul:=by
 have O1:Hid (sl.oneCell'=true):=hs
 generalize (hmN f t').hd=hu at *
 obtain⟨k,o',x,s,bb,ff,c1,r1,p1,q1,c2,r2,p2,q2⟩:=hd
 obtain⟨W1,hW1⟩:∃W1,(w.alloc (.cells (Hd.cells ⟨k,o',x,s,bb,ff,c1,r1,p1,q1,c2,r2,p2,q2⟩ sl).toArray 48)).alloc (.cells #[.int .i64 0,.int .i64 0,.float .f64 0,.string ⟨#[]⟩,.bool false,.int .i64 0,.int .i64 0,.int .i64 0,.bool false,.bool false,.int .i64 0,.int .i64 0,.bool false,.bool false,.slice none 0 0] 48)=W1:=⟨_,rfl⟩
 have HW1:Hid ((w.alloc (.cells #[.int .i64 k,.int .i64 o',.float .f64 x,.string s,.bool bb,.int .i64 ff,.int .i64 c1,.int .i64 r1,.bool p1,.bool q1,.int .i64 c2,.int .i64 r2,.bool p2,.bool q2,sl] 48)).alloc (.cells #[.int .i64 0,.int .i64 0,.float .f64 0,.string ⟨#[]⟩,.bool false,.int .i64 0,.int .i64 0,.int .i64 0,.bool false,.bool false,.int .i64 0,.int .i64 0,.bool false,.bool false,.slice none 0 0] 48)=W1):=hW1
 have K1:Hid (Kp w W1 Nul):=by show Kp _ _ _;rw[<- hW1];exact((Kp.refl w Nul).alloc _).alloc _
 have B1:Hid (∀X,Kp W1 X Nul->Blk X w.heap.size (Hd.cells ⟨k,o',x,s,bb,ff,c1,r1,p1,q1,c2,r2,p2,q2⟩ sl) 48):=fun U hq=>by
  have:Blk W1 w.heap.size (Hd.cells ⟨k,o',x,s,bb,ff,c1,r1,p1,q1,c2,r2,p2,q2⟩ sl) 48:=by rw[<- hW1];exact(Blk.new w _ _).alloc _
  exact this.kp hq (fun x=>x)
 have B2:Hid (Blk W1 (w.heap.size+1) [.int .i64 0,.int .i64 0,.float .f64 0,.string ⟨#[]⟩,.bool false,.int .i64 0,.int .i64 0,.int .i64 0,.bool false,.bool false,.int .i64 0,.int .i64 0,.bool false,.bool false,.slice none 0 0] 48):=by
  show Blk _ _ _ _;rw[<- hW1]
  have:=Blk.new (w.alloc (.cells (Hd.cells ⟨k,o',x,s,bb,ff,c1,r1,p1,q1,c2,r2,p2,q2⟩ sl).toArray 48)) [.int .i64 0,.int .i64 0,.float .f64 0,.string ⟨#[]⟩,.bool false,.int .i64 0,.int .i64 0,.int .i64 0,.bool false,.bool false,.int .i64 0,.int .i64 0,.bool false,.bool false,.slice none 0 0] 48
  rw[World.size_alloc] at this
  exact this
 clear hW1 hs
 go_enter Tryz.func99,Tryz.ntmps99
 go_wp2_with (first|(rw[HW1.out];refine wpList_load_mid rfl 48 (.tmp 3) rfl w.heap.size 0 rfl (Hd.cells ⟨k,o',x,s,bb,ff,c1,r1,p1,q1,c2,r2,p2,q2⟩ sl) _ (blk_range (B1.out _ (Kp.refl _ _))) Tryz.underlying48 rfl infoNode ?_)|fail)
 refine(HCk.out _ K1.out).mono ?_
 rintro e w2 ⟨rfl,hk2⟩
 have K2:Hid (Kp W1 w2 Nul):=hk2
 clear hk2 HCk HW1
 go_wp2_with (first|(refine wpList_load_mid rfl 48 (.tmp 3) rfl w.heap.size 0 rfl (Hd.cells ⟨k,o',x,s,bb,ff,c1,r1,p1,q1,c2,r2,p2,q2⟩ sl) _ (blk_range (B1.out _ K2.out)) Tryz.underlying48 rfl infoNode ?_)|fail)
 refine(HCp.out _ (K1.out.trans K2.out)).mono ?_
 rintro e w3 ⟨sl',fp,rfl,hown,hk3⟩
 have K3:Hid (Kp W1 w3 Nul):=K2.out.trans hk3
 have HOw:Hid (Own w3 w2.heap.size sl' t' fp):=hown
 have HSz:Hid (w.heap.size+1<w2.heap.size):=Nat.lt_of_lt_of_le B2.out.lt K2.out.size
 clear hk3 hown HCp B1
 go_wp2_with fail
 refine(HSh.out sl' fp w3 HOw.out.own HOw.out.nodup).mono ?_
 rintro e w4 ⟨sl2,fp2,rfl,hR⟩
 have HR:Hid (HmR f t' fp w3 w4 sl2 fp2):=hR
 have HNf:Hid (∀i∈fp,w.heap.size+1<i):=fun i hi=>Nat.lt_of_lt_of_le HSz.out (HOw.out.new i hi).1
 have HB4:Hid (Blk w4 (w.heap.size+1) [.int .i64 0,.int .i64 0,.float .f64 0,.string ⟨#[]⟩,.bool false,.int .i64 0,.int .i64 0,.int .i64 0,.bool false,.bool false,.int .i64 0,.int .i64 0,.bool false,.bool false,.slice none 0 0] 48):=(B2.out.kp K3.out (fun x=>x)).kp hR.kp (fun e=>Nat.lt_irrefl _ (HNf.out _ e))
 have KA:Hid (∀X,Kp w4 X (fun i=>i=w.heap.size+1)->Kp w X Nul):=fun X k=>((K1.out.trans K3.out).trans' HR.out.kp (fun i hi e=>by have:=HNf.out i e;omega)).trans' k (fun i hi e=>by have e':i=w.heap.size+1:=e;omega)
 have HF:Hid (∀X,Kp w4 X (fun i=>i=w.heap.size+1)->Own X w.heap.size sl2 (hmN f t') fp2):=fun X k=>⟨HR.out.own.mono (fun i hi=>k.block i (node_lt (HR.out.own.node i hi)) (fun e=>by have e':i=w.heap.size+1:=e;have:=HNf.out i (HR.out.sub.subset hi);omega)),HR.out.sub.nodup HOw.out.nodup,fun i hi=>⟨by have:=HNf.out i (HR.out.sub.subset hi);omega,Nat.lt_of_lt_of_le (node_lt (HR.out.own.node i hi)) k.size⟩⟩
 have O5:Hid (sl2.oneCell'=true):=hR.own.one
 clear hR HSh B2
 go_wp2_with (first|(refine wpList_store_blk rfl 48 (.tmp 6) (.tmp 19) rfl (w.heap.size+1) _ (hu.cells sl2) _ HB4.out rfl rfl rfl infoNode (hu.one O5.out) ?_;intro X hX kX)|fail)
 refine bodyPost_ret (results_row_tmp rfl _ _ (w.heap.size+1) 48 _ (0,0) _ rfl hX Tryz.underlying48 rfl infoNode) rfl ?_
 exact⟨sl2,fp2,rfl,HF.out X kX,KA.out X kX⟩
theorem shift_at (X Y:Int) (hX:I64 X) (hY:I64 Y) (t:Nd) (sl:Value) (F:Nat->Prop) (w:World) (hok:t.ok) (hin:NdIn w F sl t) (hv:VS w) (hc:chk t=0) :
  Calls Tryz.prog 99 #[t.hd.val sl,.int .i64 X,.int .i64 Y] w fun e w'=>∃sl' fp,e=.returned (.tuple #[(hmN (shH X Y) (cpy t)).hd.val sl',.int .i64 0])/\Own w' w.heap.size sl' (hmN (shH X Y) (cpy t)) fp/\Kp w w' Nul:=
 shift_core X Y (shH X Y) t.hd sl (cpy t) w (hin.one)
  (fun wq k=>by have:=check_at t sl F wq hok (hin.kp k (fun _ _ x=>x)) (hv.kp k);rw[hc] at this;exact this)
  (fun wq k=>(copy_at t sl F wq (by have:=chk_size hc;omega) hok (hin.kp k (fun _ _ x=>x))).mono (by
   rintro e w' ⟨sl',fp,h1,h2,h3⟩
   exact⟨sl',fp,h1,h2,Kp.of_below h3⟩))
  (fun sl fp wq h1 h2=>shifted_any X Y hX hY _ (cpy t) sl fp wq (Nat.le_refl _) h1 h2)
end Go.Proofs.YtecjfnkakodebaaGreatDoor
