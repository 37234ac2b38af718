/-value's isFault, bare, Valid, OfNumber; grid's isZeroValue. -/
import Derived.Test.YtnceajanlnnfoaaGreatDoorQrXs
import Derived.Deep.QuietTactic
import Derived.BigQuiet
import Derived.Deep.CutRange
set_option maxHeartbeats 8000000
set_option maxRecDepth 20000
namespace Go.Proofs.YtnceajanlnnfoaaGreatDoor
section
open Go.RowKit
def isF (f:Int):Bool:=decide (1<=f)&&decide (f<=5)
theorem j4f (f:Int)(w:World):Calls Tryz.prog 159 #[.int .i64 f] w fun e w'=>e=.returned (.bool (isF f))/\w'=w:=by
 have hV:Hid (isF f=(decide (1<=f)&&decide (f<=5))):=rfl;generalize isF f=V at *;go_enter Tryz.func159,Tryz.ntmps159;go_wp2;all_goals
  go_ret;refine⟨j4 ?_,rfl⟩;rw[hV.out];clear hV
  (try simp_all) <;> (try omega)
def F8 (v:Vl):Bool:=(v.k==1 || (v.x:Int)==0)&&(v.k==2 || decide (v.s.toList=[]))&&(v.k==3 || !v.b)&&(v.k==4 || v.f==0)
theorem j3R (v:Vl)(w:World):Calls Tryz.prog 157 #[v.val] w fun e w'=>e=.returned (.bool (F8 v))/\Gr w w':=by
 have G0:Hid (∀a t,Gr w (w.alloc (.cells a t))):=fun a t=>(Gr.refl w).alloc _ _
 have hV:Hid (F8 v=((v.k==1 || (v.x:Int)==0)&&(v.k==2 || decide (v.s.toList=[]))&&(v.k==3 || !v.b)&&(v.k==4 || v.f==0))):=rfl;generalize F8 v=V at *;obtain⟨k,x,s,b,f⟩:=v;simp only at *;go_enter Tryz.func157,Tryz.ntmps157;go_wp2;all_goals
  go_ret;refine⟨j4 ?_,G0.out _ _⟩;rw[hV.out];clear hV G0;simp_all
def G5 (v:Vl) (u:Bool):Bool:=F8 v&&(v.k==0 || v.k==1 || v.k==3 || (v.k==2&&decide (v.s.size<=1024)&&u)||(v.k==4&&isF v.f))
theorem jEk (v:Vl)(u:Bool)(w:World)
 (U:Hid (v.k=2->∀wq,Gr w wq->Calls Tryz.prog 158 #[.string v.s] wq fun e w'=>e=.returned (.bool u)/\Gr wq w')) :
 Calls Tryz.prog 111 #[v.val] w fun e w'=>e=.returned (.bool (G5 v u))/\Gr w w':=by
 have H1:Hid (∀w,Calls Tryz.prog 157 #[v.val] w fun e w'=>e=.returned (.bool (F8 v))/\Gr w w'):=j3R v;have H2:Hid (∀w,Calls Tryz.prog 159 #[.int .i64 v.f] w fun e w'=>e=.returned (.bool (isF v.f))/\w'=w):=j4f v.f;have hV:Hid (G5 v u=(F8 v&&(v.k==0 || v.k==1 || v.k==3 || (v.k==2&&decide (v.s.size<=1024)&&u)||(v.k==4&&isF v.f)))):=rfl;generalize G5 v u=V at *;generalize F8 v=B at *;generalize isF v.f=I at *;obtain⟨k,x,s,b,f⟩:=v;simp only at *;go_enter Tryz.func111,Tryz.ntmps111;go_wp2_with fail;refine(H1.out _).mono ?_;rintro e w1 ⟨rfl,hg1⟩;have hcell:=hg1.ext.cell;have G1:Hid (Gr w w1):=((Gr.refl _).alloc _ _).trans hg1;clear hg1 H1;cases B
 ·go_wp2_with fail;go_ret;exact⟨j4 (by rw[hV.out];rfl),G1.out⟩
 ·by_cases k2:k=2
  ·have U2:Hid (∀wq,Gr w wq->Calls Tryz.prog 158 #[.string s] wq fun e w'=>e=.returned (.bool u)/\Gr wq w'):=U.out k2;subst k2;clear U;go_wp2_with (go_at_call 158;refine(U2.out _ G1.out).mono ?_;rintro e w2 ⟨rfl,hg2⟩;have G2:Hid (Gr w w2):=G1.out.trans hg2;clear hg2 hcell)
   ·go_ret;refine⟨j4 ?_,G2.out⟩;rw[hV.out];clear hV;simp_all
    try omega
   ·go_ret;refine⟨j4 ?_,G1.out⟩;rw[hV.out];clear hV;simp_all
    try omega
  ·clear U;go_wp2_with (go_at_call 159;refine(H2.out _).mono ?_;rintro e w2 ⟨rfl,rfl⟩);all_goals
    go_ret;refine⟨j4 ?_,G1.out⟩;rw[hV.out];clear hV hcell H2;simp_all
theorem E7:(Tryz.prog.info? 59).map (·.size)=some 5:=by kernel_rfl
def G9 (v:Vl):Bool:=v.k==0&&F8 v
theorem j9x (v:Vl)(w:World):Calls Tryz.prog 109 #[v.val] w fun e w'=>e=.returned (.bool (G9 v))/\Gr w w':=by
 have H1:Hid (v.k=0->∀wq,Calls Tryz.prog 111 #[v.val] wq fun e w'=>e=.returned (.bool (F8 v))/\Gr wq w'):=by
  intro hk wq;have:=jEk v false wq (fun h2=>absurd h2 (by rw[hk];decide));rw[show G5 v false=F8 v from by unfold G5;rw[hk];simp] at this;exact this
 have hV:Hid (G9 v=(v.k==0&&F8 v)):=rfl;generalize G9 v=V at *;generalize F8 v=B at *;obtain⟨k,x,s,b,f⟩:=v;simp only at *;by_cases k0:k=0
 ·have H2:Hid (∀wq,Calls Tryz.prog 111 #[.agg #[.int .i64 k,.float .f64 x,.string s,.bool b,.int .i64 f]] wq fun e w'=>e=.returned (.bool B)/\Gr wq w'):=H1.out k0;subst k0;clear H1;go_enter Tryz.func109,Tryz.ntmps109;go_wp2_with fail;refine(H2.out _).mono ?_;rintro e w1 ⟨rfl,hg1⟩;have G1:Hid (Gr w w1):=((Gr.refl _).alloc _ _).trans hg1;clear hg1 H2;go_wp2_with fail;go_ret;exact⟨j4 (by rw[hV.out];rfl),G1.out⟩
 ·clear H1;have hk:(k==0)=false:=by simpa using k0
  have G1:Hid (∀a t,Gr w (w.alloc (.cells a t))):=fun a t=>(Gr.refl w).alloc _ _
  go_enter Tryz.func109,Tryz.ntmps109;go_wp2_with fail;go_ret;exact⟨j4 (by rw[hV.out,hk];rfl),G1.out _ _⟩
theorem jBG (x:Nat)(hx:x<18446744073709551616)(w:World):
 Calls Tryz.prog 113 #[.float .f64 x] w fun e w'=>e=.returned (.agg #[.int .i64 1,.float .f64 (one x),.string ⟨#[]⟩,.bool false,.int .i64 0])/\Gr w w':=by
 have H1:Hid (∀w,Calls Tryz.prog 55 #[.float .f64 x] w fun e w'=>e=.returned (.float .f64 (one x))/\w'=w):=j08 x hx;generalize one x=y at *;go_enter Tryz.func113,Tryz.ntmps113;go_wp2_with (go_at_call 55;refine(H1.out _).mono ?_;rintro e w' ⟨rfl,rfl⟩);refine bodyPost_ret (results_cell_row rfl _ _ w.heap.size 59 _ (0,0) _ rfl (heap_alloc_new _ _) Tryz.underlying59 rfl E7) rfl ?_;exact⟨rfl,(Gr.refl _).alloc _ _⟩
def zHd:Hd:=⟨0,0,0,⟨#[]⟩,false,0,0,0,false,false,0,0,false,false⟩
def zNd:Nd:=.mk zHd []
theorem j3K:zNd.ok:=by unfold zNd;rw[Nd.ok,okL];exact⟨by decide,trivial⟩
theorem j3J (w:World)(F:Nat->Prop):NdIn w F (.slice none 0 0) zNd:=by
 unfold zNd;rw[NdIn];exact⟨none,0,rfl,by simp,by unfold maxLen;omega,.inl ⟨rfl,.inl rfl⟩⟩
def G8 (t:Nd):Bool:=E3 t zNd
theorem j9w (t:Nd)(sl:Value)(F:Nat->Prop)(w:World)(hok:t.ok)(hin:NdIn w F sl t):
 Calls Tryz.prog 110 #[t.hd.val sl] w fun e w'=>e=.returned (.bool (G8 t))/\Gr w w':=by
 have H1:Hid (∀wq,Gr w wq->Calls Tryz.prog 137 #[t.hd.val sl,.agg #[.int .i64 0,.int .i64 0,.float .f64 0,.string ⟨#[]⟩,.bool false,.int .i64 0,.int .i64 0,.int .i64 0,.bool false,.bool false,.int .i64 0,.int .i64 0,.bool false,.bool false,.slice none 0 0]] wq fun e w'=>e=.returned (.bool (G8 t))/\Gr wq w'):=
  fun wq hq=>j6O t zNd sl (.slice none 0 0) F F wq hok j3K (hin.gr hq) (j3J wq F)
 generalize G8 t=V at *;generalize t.hd=h at *;clear hin hok;go_enter Tryz.func110,Tryz.ntmps110;go_wp2_with fail;refine(H1.out _ ((Gr.refl _).alloc _ _)).mono ?_;rintro e w1 ⟨rfl,hg1⟩;have G1:Hid (Gr w w1):=((Gr.refl _).alloc _ _).trans hg1;clear hg1 H1;go_wp2_with fail;go_ret;exact⟨rfl,G1.out⟩
def Q7 (c:Ct) (u:Bool) (e:Int):Bool:=(c.k==0&&(G9 c.v&&G8 c.t))||(c.k==1&&(c.v.k != 0&&G5 c.v u&&G8 c.t))||(c.k==2&&(G9 c.v&&e==0))
def cpC (c:Ct):Ct:=⟨c.k,{ c.v with x:=one c.v.x },cpy c.t⟩
theorem E8:(Tryz.prog.info? 66).map (·.size)=some 21:=by kernel_rfl
theorem Ct.one (c:Ct){sl:Value}(hs:sl.oneCell'=true):(#[.int .i64 c.k,.int .i64 c.v.k,.float .f64 c.v.x,.string c.v.s,.bool c.v.b,.int .i64 c.v.f,
 .int .i64 c.t.hd.k,.int .i64 c.t.hd.o,.float .f64 c.t.hd.x,.string c.t.hd.s,.bool c.t.hd.b,.int .i64 c.t.hd.f,.int .i64 c.t.hd.c1,.int .i64 c.t.hd.r1,.bool c.t.hd.p1,.bool c.t.hd.q1,.int .i64 c.t.hd.c2,.int .i64 c.t.hd.r2,.bool c.t.hd.p2,.bool c.t.hd.q2,sl]:Array Value).all (·.oneCell')=true:=by
 simpa [Value.oneCell'] using hs
theorem J6 {w:World}{b:Nat}{pre l post:List Value}{t:TypeId}{fr:Nat×Nat}(hb:w.heap[b]? = some (.cells (pre++l++post).toArray t fr)):w.rangeAt b pre.length l:=by
 intro j v hj;rw[cell_of_row w b _ _ _ _ hb];have hlt:j<l.length:=(List.getElem?_eq_some_iff.1 hj).1;simp only[List.getElem?_toArray];rw[List.append_assoc,List.getElem?_append_right (by omega),Nat.add_sub_cancel_left,List.getElem?_append_left hlt];exact hj
theorem jDr (pre old new post:List Value)(h:old.length=new.length):O0 (pre++old++post).toArray pre.length new=(pre++new++post).toArray:=by
 apply Array.ext_getElem?
 intro i;rw[j1g _ _ _ _ (by simp;omega)];simp only[List.getElem?_toArray];by_cases h1:pre.length<=i/\i<pre.length+new.length
 ·rw[if_pos h1,List.append_assoc,List.getElem?_append_right h1.1,List.getElem?_append_left (by omega)]
 ·rw[if_neg h1];by_cases h2:i<pre.length
  ·rw[List.append_assoc,List.append_assoc,List.getElem?_append_left h2,List.getElem?_append_left h2]
  ·rw[List.getElem?_append_right (by simp;omega),List.getElem?_append_right (by simp;omega),List.length_append,List.length_append,h]
theorem j0b {w:World}{b:Nat}{pre old new post:List Value}{t:TypeId}(h:old.length=new.length)(hb:w.heap[b]? = some (.cells (pre++old++post).toArray t (0,0))):
 (w.setCells b pre.length new).heap[b]? = some (.cells (pre++new++post).toArray t (0,0)):=by
 rw[j04 _ _ _ _ hb,jDr _ _ _ _ h]
theorem L7 {P:Program}{ops:Array Oper}{rest:List Oper}{op:Oper}{a:Act}{w:World}{Q:Exit->Act->World->Prop}(hgd:op.guard=none)(ty:TypeId)(x y:Operand)(ho:op.op=.store ty x y)
 (b o:Nat) (cells:Array Value) (hx:a.eval x=.pointer (some ⟨b,o,none⟩)) (hy:a.eval y=.agg cells)
 (ht:w.there b o cells.size) (hi:(P.info? ty).map (·.size)=some cells.size) (h1:cells.all (·.oneCell')=true) (W3:World) (hW:w.setCells b o cells.toList=W3)
 (h:wpList P ops Q rest (a.put op.dst undef) W3):wpList P ops Q (op::rest) a w:=
 wpList_store_mid hgd ty x y ho b o cells hx hy ht hi h1 (by rw[hW];exact h)
@[go_sem] theorem jFW (a c d f:Value) (y:Nat) (w:World):(Instr.field 59 (.agg #[a,.float .f64 y,c,d,f]) 1).run Tryz.prog w=.ok (.float .f64 y) w:=by
 unfold Instr.field;rw[Sem.run_bind,run_underlying Tryz.underlying59 w];simp[part,asAgg,isAgg,run_underlying Tryz.underlying50 w,Sem.run_bind]
theorem j2G (c:Ct)(sl:Value)(F:Nat->Prop)(w:World)(hx:c.v.x<18446744073709551616)(hm:c.t.size<=1048576)(hok:c.t.ok)(hin:NdIn w F sl c.t):
 Calls Tryz.prog 61 #[c.val sl] w fun e w'=>∃sl' fp,e=.returned ((cpC c).val sl')/\Own w' w.heap.size sl' (cpC c).t fp/\Below w.heap.size w w':=by
 have H1:Hid (∀w,Calls Tryz.prog 113 #[.float .f64 c.v.x] w fun e w'=>e=.returned (.agg #[.int .i64 1,.float .f64 (Go.Proofs.YtnceajanlnnfoaaGreatDoor.one c.v.x),.string ⟨#[]⟩,.bool false,.int .i64 0])/\Gr w w'):=jBG c.v.x hx;have H2:Hid (∀wq,Below w.heap.size w wq->Calls Tryz.prog 114 #[c.t.hd.val sl] wq fun e w'=>∃sl' fp,e=.returned ((cpy c.t).hd.val sl')/\Own w' wq.heap.size sl' (cpy c.t) fp/\Below wq.heap.size wq w'):=
  fun wq hq=>j8n c.t sl F wq hm hok (hin.mono fun b hb hlt=>⟨hq.block b hlt,hb⟩)
 obtain⟨k,⟨vk,vx,vs,vb,vf⟩,t⟩:=c;unfold cpC;simp only at *;generalize Go.Proofs.YtnceajanlnnfoaaGreatDoor.one vx=y at *;generalize cpy t=u at *;clear hin hok hx hm;go_enter Tryz.func61,Tryz.ntmps61;go_wp2_with fail;refine(H1.out _).mono ?_;rintro e w1 ⟨rfl,hg1⟩;have B0:Hid (w1.heap[w.heap.size]? = some (.cells #[.int .i64 k,.int .i64 vk,.float .f64 vx,.string vs,.bool vb,.int .i64 vf,.int .i64 t.hd.k,.int .i64 t.hd.o,.float .f64 t.hd.x,.string t.hd.s,.bool t.hd.b,.int .i64 t.hd.f,.int .i64 t.hd.c1,.int .i64 t.hd.r1,.bool t.hd.p1,.bool t.hd.q1,.int .i64 t.hd.c2,.int .i64 t.hd.r2,.bool t.hd.p2,.bool t.hd.q2,sl] 66 (0,0))):=by
  show _=_;rw[hg1.ext.block _ (by simp[World.size_alloc] <;> omega),heap_alloc2_old]
 have B1:Hid (w1.heap[w.heap.size+1]? = some (.cells #[.int .i64 0,.int .i64 0,.float .f64 0,.string ⟨#[]⟩,.bool false,.int .i64 0,.int .i64 0,.int .i64 0,.float .f64 0,.string ⟨#[]⟩,.bool false,.int .i64 0,.int .i64 0,.int .i64 0,.bool false,.bool false,.int .i64 0,.int .i64 0,.bool false,.bool false,.slice none 0 0] 66 (0,0))):=by
  show _=_;rw[hg1.ext.block _ (by simp[World.size_alloc]),heap_alloc2_new]
 have GW:Hid (Below w.heap.size w w1):=(((Below.refl _ _).alloc (Nat.le_refl _) _).alloc (by simp[World.size_alloc]) _).trans ((j9d hg1).mono (by simp[World.size_alloc];omega));clear hg1 H1;have D0:Hid ((w1.setCell ⟨w.heap.size,2,none⟩ (.float .f64 y)).heap[w.heap.size]? = some (.cells #[.int .i64 k,.int .i64 vk,.float .f64 y,.string vs,.bool vb,.int .i64 vf,.int .i64 t.hd.k,.int .i64 t.hd.o,.float .f64 t.hd.x,.string t.hd.s,.bool t.hd.b,.int .i64 t.hd.f,.int .i64 t.hd.c1,.int .i64 t.hd.r1,.bool t.hd.p1,.bool t.hd.q1,.int .i64 t.hd.c2,.int .i64 t.hd.r2,.bool t.hd.p2,.bool t.hd.q2,sl] 66 (0,0))):=by
  show _=_;rw[heap_setCell_same w1 _ 2 _ _ _ B0.out]
  rfl
 have D1:Hid ((w1.setCell ⟨w.heap.size,2,none⟩ (.float .f64 y)).heap[w.heap.size+1]? = some (.cells #[.int .i64 0,.int .i64 0,.float .f64 0,.string ⟨#[]⟩,.bool false,.int .i64 0,.int .i64 0,.int .i64 0,.float .f64 0,.string ⟨#[]⟩,.bool false,.int .i64 0,.int .i64 0,.int .i64 0,.bool false,.bool false,.int .i64 0,.int .i64 0,.bool false,.bool false,.slice none 0 0] 66 (0,0))):=(heap_setCell_other w1 _ _ _ (by simp)).trans B1.out;have GW1:Hid (Below w.heap.size w (w1.setCell ⟨w.heap.size,2,none⟩ (.float .f64 y))):=GW.out.setCell (Nat.le_refl _) _;have c2:w1.cell? ⟨w.heap.size,2,none⟩=some (.float .f64 vx):=cell_of_row w1 _ 2 _ _ _ B0.out;have f2:w1.frozen? ⟨w.heap.size,2,none⟩=false:=frozen_of_row w1 _ 2 _ _ B0.out;have RF:Hid ((w1.setCell ⟨w.heap.size,2,none⟩ (.float .f64 y)).rangeAt w.heap.size 6 (t.hd.cells sl)):=J6 (pre:=[.int .i64 k,.int .i64 vk,.float .f64 y,.string vs,.bool vb,.int .i64 vf]) (l:=t.hd.cells sl) (post:=[]) D0.out
 clear B0 B1 GW;go_wp2_with (refine wpList_load_mid rfl 64 (.tmp 10) rfl w.heap.size 6 rfl (t.hd.cells sl) _ RF.out Tryz.underlying64 rfl z6 ?_);refine(H2.out _ GW1.out).mono ?_;rintro e w2 ⟨sl',fp,rfl,hown,hbw⟩;have hsz:w.heap.size+1<(w1.setCell ⟨w.heap.size,2,none⟩ (.float .f64 y)).heap.size:=(Array.getElem?_eq_some_iff.1 D1.out).1;have E0:Hid (w2.heap[w.heap.size]? = some (.cells #[.int .i64 k,.int .i64 vk,.float .f64 y,.string vs,.bool vb,.int .i64 vf,.int .i64 t.hd.k,.int .i64 t.hd.o,.float .f64 t.hd.x,.string t.hd.s,.bool t.hd.b,.int .i64 t.hd.f,.int .i64 t.hd.c1,.int .i64 t.hd.r1,.bool t.hd.p1,.bool t.hd.q1,.int .i64 t.hd.c2,.int .i64 t.hd.r2,.bool t.hd.p2,.bool t.hd.q2,sl] 66 (0,0))):=(hbw.block _ (by omega)).trans D0.out;have E1:Hid (w2.heap[w.heap.size+1]? = some (.cells #[.int .i64 0,.int .i64 0,.float .f64 0,.string ⟨#[]⟩,.bool false,.int .i64 0,.int .i64 0,.int .i64 0,.float .f64 0,.string ⟨#[]⟩,.bool false,.int .i64 0,.int .i64 0,.int .i64 0,.bool false,.bool false,.int .i64 0,.int .i64 0,.bool false,.bool false,.slice none 0 0] 66 (0,0))):=(hbw.block _ hsz).trans D1.out
 have O1:Hid (sl'.oneCell'=true):=hown.own.one;have F0:Hid ((w2.setCells w.heap.size 6 (u.hd.cells sl')).heap[w.heap.size]? = some (.cells #[.int .i64 k,.int .i64 vk,.float .f64 y,.string vs,.bool vb,.int .i64 vf,.int .i64 u.hd.k,.int .i64 u.hd.o,.float .f64 u.hd.x,.string u.hd.s,.bool u.hd.b,.int .i64 u.hd.f,.int .i64 u.hd.c1,.int .i64 u.hd.r1,.bool u.hd.p1,.bool u.hd.q1,.int .i64 u.hd.c2,.int .i64 u.hd.r2,.bool u.hd.p2,.bool u.hd.q2,sl'] 66 (0,0))):=j0b (pre:=[.int .i64 k,.int .i64 vk,.float .f64 y,.string vs,.bool vb,.int .i64 vf]) (old:=t.hd.cells sl) (new:=u.hd.cells sl') (post:=[]) rfl E0.out;have F1:Hid ((w2.setCells w.heap.size 6 (u.hd.cells sl')).heap[w.heap.size+1]? = some (.cells #[.int .i64 0,.int .i64 0,.float .f64 0,.string ⟨#[]⟩,.bool false,.int .i64 0,.int .i64 0,.int .i64 0,.float .f64 0,.string ⟨#[]⟩,.bool false,.int .i64 0,.int .i64 0,.int .i64 0,.bool false,.bool false,.int .i64 0,.int .i64 0,.bool false,.bool false,.slice none 0 0] 66 (0,0))):=(J1 (by omega) _ _ _).trans E1.out
 have T0:Hid (w2.there w.heap.size 6 15):=I1 E0.out _ _ (by simp);obtain⟨W3,hW3⟩:∃W3,w2.setCells w.heap.size 6 (u.hd.cells sl')=W3:=⟨_,rfl⟩;have HW3:Hid (w2.setCells w.heap.size 6 (u.hd.cells sl')=W3):=hW3;rw[hW3] at F0 F1;have RC:Hid (W3.rangeAt w.heap.size 0 [.int .i64 k,.int .i64 vk,.float .f64 y,.string vs,.bool vb,.int .i64 vf,.int .i64 u.hd.k,.int .i64 u.hd.o,.float .f64 u.hd.x,.string u.hd.s,.bool u.hd.b,.int .i64 u.hd.f,.int .i64 u.hd.c1,.int .i64 u.hd.r1,.bool u.hd.p1,.bool u.hd.q1,.int .i64 u.hd.c2,.int .i64 u.hd.r2,.bool u.hd.p2,.bool u.hd.q2,sl']):=J6 (pre:=[]) (post:=[]) F0.out;have T1:Hid (W3.there (w.heap.size+1) 0 21):=I1 F1.out _ _ (by simp);have L1:Hid ((W3.setCells (w.heap.size+1) 0 [.int .i64 k,.int .i64 vk,.float .f64 y,.string vs,.bool vb,.int .i64 vf,.int .i64 u.hd.k,.int .i64 u.hd.o,.float .f64 u.hd.x,.string u.hd.s,.bool u.hd.b,.int .i64 u.hd.f,.int .i64 u.hd.c1,.int .i64 u.hd.r1,.bool u.hd.p1,.bool u.hd.q1,.int .i64 u.hd.c2,.int .i64 u.hd.r2,.bool u.hd.p2,.bool u.hd.q2,sl']).heap[w.heap.size+1]? = some (.cells #[.int .i64 k,.int .i64 vk,.float .f64 y,.string vs,.bool vb,.int .i64 vf,.int .i64 u.hd.k,.int .i64 u.hd.o,.float .f64 u.hd.x,.string u.hd.s,.bool u.hd.b,.int .i64 u.hd.f,.int .i64 u.hd.c1,.int .i64 u.hd.r1,.bool u.hd.p1,.bool u.hd.q1,.int .i64 u.hd.c2,.int .i64 u.hd.r2,.bool u.hd.p2,.bool u.hd.q2,sl'] 66 (0,0))):=T4 (cs:=#[.int .i64 k,.int .i64 vk,.float .f64 y,.string vs,.bool vb,.int .i64 vf,.int .i64 u.hd.k,.int .i64 u.hd.o,.float .f64 u.hd.x,.string u.hd.s,.bool u.hd.b,.int .i64 u.hd.f,.int .i64 u.hd.c1,.int .i64 u.hd.r1,.bool u.hd.p1,.bool u.hd.q1,.int .i64 u.hd.c2,.int .i64 u.hd.r2,.bool u.hd.p2,.bool u.hd.q2,sl']) F1.out (by simp)
 have OW:Hid (Own (W3.setCells (w.heap.size+1) 0 [.int .i64 k,.int .i64 vk,.float .f64 y,.string vs,.bool vb,.int .i64 vf,.int .i64 u.hd.k,.int .i64 u.hd.o,.float .f64 u.hd.x,.string u.hd.s,.bool u.hd.b,.int .i64 u.hd.f,.int .i64 u.hd.c1,.int .i64 u.hd.r1,.bool u.hd.p1,.bool u.hd.q1,.int .i64 u.hd.c2,.int .i64 u.hd.r2,.bool u.hd.p2,.bool u.hd.q2,sl']) w.heap.size sl' u fp):=by
  refine⟨hown.own.mono (fun b hb=>?_),hown.nodup,fun b hb=>?_⟩
  ·have:=(hown.new b hb).1;rw[J1 (by omega),<- hW3,J1 (by omega)]
  ·rw[Q2,<- hW3,Q2];exact⟨by have:=(hown.new b hb).1;omega,(hown.new b hb).2⟩
 have BW:Hid (Below w.heap.size w (W3.setCells (w.heap.size+1) 0 [.int .i64 k,.int .i64 vk,.float .f64 y,.string vs,.bool vb,.int .i64 vf,.int .i64 u.hd.k,.int .i64 u.hd.o,.float .f64 u.hd.x,.string u.hd.s,.bool u.hd.b,.int .i64 u.hd.f,.int .i64 u.hd.c1,.int .i64 u.hd.r1,.bool u.hd.p1,.bool u.hd.q1,.int .i64 u.hd.c2,.int .i64 u.hd.r2,.bool u.hd.p2,.bool u.hd.q2,sl'])):=
  R8 (hW3 ▸ R8 (GW1.out.trans (hbw.mono (by omega))) (Nat.le_refl _) _ _) (Nat.le_succ _) _ _
 clear hW3 hown hbw H2 D0 D1 GW1 c2 f2 RF E0 E1 F0 F1 hsz;go_wp2_with (first|(refine L7 rfl 64 (.tmp 13) (.tmp 12) rfl w.heap.size 6 _ rfl rfl T0.out z6 (u.hd.one O1.out) W3 HW3.out ?_)|(refine wpList_load_mid rfl 66 (.tmp 1) rfl w.heap.size 0 rfl [.int .i64 k,.int .i64 vk,.float .f64 y,.string vs,.bool vb,.int .i64 vf,.int .i64 u.hd.k,.int .i64 u.hd.o,.float .f64 u.hd.x,.string u.hd.s,.bool u.hd.b,.int .i64 u.hd.f,.int .i64 u.hd.c1,.int .i64 u.hd.r1,.bool u.hd.p1,.bool u.hd.q1,.int .i64 u.hd.c2,.int .i64 u.hd.r2,.bool u.hd.p2,.bool u.hd.q2,sl'] _ RC.out Tryz.underlying66 rfl E8 ?_)|(refine wpList_store_mid rfl 66 (.tmp 2) (.tmp 14) rfl (w.heap.size+1) 0 _ rfl rfl T1.out E8 (Ct.one ⟨k,⟨vk,y,vs,vb,vf⟩,u⟩ O1.out) ?_));refine bodyPost_ret (results_cell_row rfl _ _ (w.heap.size+1) 66 _ (0,0) _ rfl L1.out Tryz.underlying66 rfl E8) rfl ?_
 exact⟨_,_,rfl,OW.out,BW.out⟩
theorem j4G {o:Oper}{a:Act}{x:Operand}{b p:Nat}{w:World}(cs:List Value)(ho:o.op=.load 64 x)(hx:a.eval x=.pointer (some ⟨b,p,none⟩))(hc:w.rangeAt b p cs)(hcs:cs.length=15):(execOp a.eval o).run Tryz.prog w=.ok (.value (.agg cs.toArray)) w:=by
 unfold execOp;simp only[ho,hx,Instr.loadAt,Instr.sureAddr,Sem.run_bind,Sem.run_pure,Result.andThen_ok,run_loadVar_mid w b p 64 cs _ hc Tryz.underlying64 rfl (by rw[hcs];exact z6)]
theorem j1A:∃i,Tryz.prog.info? 64=some i/\i.zero=some (.agg #[.int .i64 0,.int .i64 0,.float .f64 0,.string ⟨#[]⟩,.bool false,.int .i64 0,.int .i64 0,.int .i64 0,.bool false,.bool false,.int .i64 0,.int .i64 0,.bool false,.bool false,.slice none 0 0])/\i.size=15/\i.bytes=128:=by
 have:=j4c;cases h:Tryz.prog.info? 64 with
 | none=>rw[h] at this;cases this
 | some i=>
  rw[h] at this;have:=Option.some.inj this;simp only[Prod.mk.injEq] at this;exact⟨i,rfl,this.1,this.2.1,this.2.2⟩
structure OwAt (w wr:World) (ps zs:List Value) (h:Hd) (us:List Nd) (v:Value) (fp:List Nat):Prop where
 bel:Below w.heap.size w wr
 b1:Blk wr w.heap.size ps 64
 b2:Blk wr (w.heap.size+1) zs 64
 b3:Blk wr (w.heap.size+2) (h.cells v) 64
 own:Own wr (w.heap.size+3) v (.mk h us) fp
theorem OwAt.start {w:World}(ps zs:List Value)(h:Hd):OwAt w (((w.alloc (.cells ps.toArray 64)).alloc (.cells zs.toArray 64)).alloc (.cells (h.cells (.slice none 0 0)).toArray 64)) ps zs h [] (.slice none 0 0) []:=by
 refine⟨?_,?_,?_,?_,?_,?_,?_⟩
 ·exact(((Below.refl _ _).alloc (Nat.le_refl _) _).alloc (by simp[World.size_alloc]) _).alloc (by simp[World.size_alloc];omega) _
 ·exact((Blk.new w ps _).alloc _).alloc _
 ·have:=Blk.new (w.alloc (.cells ps.toArray 64)) zs 64;rw[World.size_alloc] at this;exact this.alloc _
 ·have:=Blk.new ((w.alloc (.cells ps.toArray 64)).alloc (.cells zs.toArray 64)) (h.cells (.slice none 0 0)) 64;rw[World.size_alloc,World.size_alloc] at this;exact this
 ·rw[E6];exact .inl ⟨rfl,rfl,rfl⟩
 ·exact List.nodup_nil
 ·intro b hb;simp at hb
theorem OwAt.lt {w wr:World}{ps zs:List Value}{h:Hd}{us:List Nd}{v:Value}{fp:List Nat}(q:OwAt w wr ps zs h us v fp):w.heap.size+3<=wr.heap.size:=q.b3.lt
theorem OwAt.step {w wr w2 w4:World}{ps zs:List Value}{h:Hd}{us:List Nd}{v:Value}{fp:List Nat}(q:OwAt w wr ps zs h us v fp)(hg:Below wr.heap.size wr w2){B:Nat}(hB:wr.heap.size<=B){sl:Value}{u:Nd}{f:List Nat}(hu:Own w2 B sl u f){xs:List Value}
 (hx:(w2.alloc (.cells (u.hd.cells sl).toArray 64)).ownsRow (w.heap.size+3) 64 15 v us.length xs) {g c:Nat}
 (ho:w4.ownsRow (w.heap.size+3) 64 15 (.slice (some ⟨g,0,none⟩) (us.length+1) c) (us.length+1) (xs++u.hd.cells sl)) (hgr:(w2.alloc (.cells (u.hd.cells sl).toArray 64)).grownBy w4 v.ownBlock) (ht:v.ownBlock=some g∨(w2.alloc (.cells (u.hd.cells sl).toArray 64)).heap.size<=g) :
 ∃fp',OwAt w (w4.setCell ⟨w.heap.size+2,14,none⟩ (.slice (some ⟨g,0,none⟩) (us.length+1) c)) ps zs h (us++[u]) (.slice (some ⟨g,0,none⟩) (us.length+1) c) fp':=by
 have hlt:=q.lt;have hg3:Below wr.heap.size wr (w2.alloc (.cells (u.hd.cells sl).toArray 64)):=hg.alloc hg.size _;have own3:Own (w2.alloc (.cells (u.hd.cells sl).toArray 64)) (w.heap.size+3) v (.mk h us) fp:=q.own.below hg3;have hu3:Own (w2.alloc (.cells (u.hd.cells sl).toArray 64)) (w.heap.size+3) sl u f:=(hu.below ((Below.refl _ _).alloc (Nat.le_refl _) _)).le (by omega);have hd:∀b∈f,b∉fp:=fun b hb hb'=>by
  have:=(hu.new b hb).1;have:=(q.own.new b hb').2;omega
 obtain⟨fp',ow4⟩:=own3.grow hx hu3 hd ho hgr ht h;have hrow:∀i,v.ownBlock=some i->w.heap.size+3<=i:=fun i hi=>(hx.lt i hi).1
 have hb4:∀i,i<w.heap.size+3->w4.heap[i]? = wr.heap[i]?:=fun i hi=>by
  rw[hgr.block i (by have:=hg3.size;omega) (fun e=>by have:=hrow i e.symm;omega)];exact hg3.block i (by omega)
 have ne:∀i,i≠w.heap.size+2->(w4.setCell ⟨w.heap.size+2,14,none⟩ (.slice (some ⟨g,0,none⟩) (us.length+1) c)).heap[i]? = w4.heap[i]?:=fun i hi=>heap_setCell_other w4 _ i _ hi
 have sz:(w4.setCell ⟨w.heap.size+2,14,none⟩ (.slice (some ⟨g,0,none⟩) (us.length+1) c)).heap.size=w4.heap.size:=by
  show (w4.heap.modify _ _).size=_;simp
 have b3':Blk w4 (w.heap.size+2) (h.cells v) 64:=(hb4 _ (by omega)).trans q.b3;refine⟨fp',⟨?_,?_,?_,?_,?_⟩⟩
 ·refine⟨?_,?_,?_,?_,?_⟩
  ·exact hgr.os.trans (hg3.os.trans q.bel.os)
  ·exact hgr.tape.trans (hg3.tape.trans q.bel.tape)
  ·exact hgr.output.trans (hg3.output.trans q.bel.output)
  ·rw[sz];have:=hgr.size;have:=hg3.size;omega
  ·intro i hi;rw[ne i (by omega),hb4 i (by omega)];exact q.bel.block i hi
 ·exact(ne _ (by omega)).trans ((hb4 _ (by omega)).trans q.b1)
 ·exact(ne _ (by omega)).trans ((hb4 _ (by omega)).trans q.b2)
 ·exact b3'.set 14 _
 ·refine⟨ow4.own.mono (fun b hb=>ne b (by have:=(ow4.new b hb).1;omega)),ow4.nodup,fun b hb=>?_⟩;rw[sz];exact ow4.new b hb
theorem j0h {w w':World}{B:Nat}{e:TypeId}{k:Nat}{v:Value}{n:Nat}{xs:List Value}(h:w.ownsRow B e k v n xs)(g:Below w.heap.size w w'):w'.ownsRow B e k v n xs:=
 h.kept ⟨g.os,g.tape,g.output,g.size,fun i hi _=>g.block i hi⟩ (row:=none) (by cases hv:v.ownBlock <;> simp)
theorem j0a (h:Hd){sl:Value}(hs:sl.oneCell'=true):∀u∈h.cells sl,u.oneCell'=true:=by
 intro u hu;have:=h.one hs;rw[Array.all_eq_true'] at this;exact this u (by simpa using hu)
theorem j5Q (w:World)(cs:List Value)(t:TypeId)(o:Obj):((w.alloc (.cells cs.toArray t)).alloc o).rangeAt w.heap.size 0 cs:=by
 have:=((Blk.new w cs t).alloc o);intro j v hj;rw[Nat.zero_add];exact this.cell hj
theorem jBV (N:Nat):∀(t:Nd) (sl:Value) (F:Nat->Prop) (w:World),t.size<=N->t.size<=1048576->NdIn w F sl t ->
 Calls Tryz.prog 167 #[t.hd.val sl] w fun e w'=>∃sl' fp,e=.returned (t.hd.val sl')/\Own w' w.heap.size sl' t fp/\Below w.heap.size w w':=by
 induction N with
 | zero=>intro t sl F w h;have:=J3 t;omega
 | succ N ih=>
  intro t sl F w hN hm hin;obtain⟨h,ts⟩:=t;rw[NdIn] at hin;obtain⟨a,c,rfl,_,_,h4⟩:=hin;have hsz:Hid ((Nd.mk h ts).size=1+j5 ts):=by show _=_;rw[Nd.size]
  have HN:Hid ((Nd.mk h ts).size<=N+1):=hN;have HM:Hid ((Nd.mk h ts).size<=1048576):=hm;have IH:Hid (∀(t:Nd) (sl:Value) (F:Nat->Prop) (w:World),t.size<=N->t.size<=1048576->NdIn w F sl t ->
   Calls Tryz.prog 167 #[t.hd.val sl] w fun e w'=>∃sl' fp,e=.returned (t.hd.val sl')/\Own w' w.heap.size sl' t fp/\Below w.heap.size w w'):=ih
  have H4:Hid ((ts=[]/\(c=0∨a≠none))∨∃b o,a=some ⟨b,o,none⟩/\F b/\z8 w F b o ts):=h4;have hln:=j07 ts;have HLM:Hid (ts.length<=1048576):=by show _<=_;have:=hsz.out;omega
  clear ih hN hm h4 hln;simp only[Nd.hd];generalize hn:ts.length=n at *;have HL:Hid (ts.length=n):=hn;clear hn;obtain⟨W0,hW0⟩:∃W0,(((w.alloc (.cells (h.cells (.slice a n c)).toArray 64)).alloc (.cells [.int .i64 0,.int .i64 0,.float .f64 0,.string ⟨#[]⟩,.bool false,.int .i64 0,.int .i64 0,.int .i64 0,.bool false,.bool false,.int .i64 0,.int .i64 0,.bool false,.bool false,.slice none 0 0].toArray 64)).alloc (.cells (h.cells (.slice none 0 0)).toArray 64))=W0:=⟨_,rfl⟩;have OS:=OwAt.start (w:=w) (h.cells (.slice a n c)) [.int .i64 0,.int .i64 0,.float .f64 0,.string ⟨#[]⟩,.bool false,.int .i64 0,.int .i64 0,.int .i64 0,.bool false,.bool false,.int .i64 0,.int .i64 0,.bool false,.bool false,.slice none 0 0] h;rw[hW0] at OS;have HOS:Hid (OwAt w W0 (h.cells (.slice a n c)) [.int .i64 0,.int .i64 0,.float .f64 0,.string ⟨#[]⟩,.bool false,.int .i64 0,.int .i64 0,.int .i64 0,.bool false,.bool false,.int .i64 0,.int .i64 0,.bool false,.bool false,.slice none 0 0] h [] (.slice none 0 0) []):=OS
  have RR:Hid (∀o,((w.alloc (.cells (h.cells (.slice a n c)).toArray 64)).alloc o).rangeAt w.heap.size 0 (h.cells (.slice a n c))):=fun o=>j5Q w _ _ o
  clear OS;obtain⟨k,o',x,s,bb,f,c1,r1,p1,q1,c2,r2,p2,q2⟩:=h;have HW:Hid ((((w.alloc (.cells #[.int .i64 k,.int .i64 o',.float .f64 x,.string s,.bool bb,.int .i64 f,.int .i64 c1,.int .i64 r1,.bool p1,.bool q1,.int .i64 c2,.int .i64 r2,.bool p2,.bool q2,.slice a n c] 64)).alloc (.cells #[.int .i64 0,.int .i64 0,.float .f64 0,.string ⟨#[]⟩,.bool false,.int .i64 0,.int .i64 0,.int .i64 0,.bool false,.bool false,.int .i64 0,.int .i64 0,.bool false,.bool false,.slice none 0 0] 64)).alloc (.cells #[.int .i64 k,.int .i64 o',.float .f64 x,.string s,.bool bb,.int .i64 f,.int .i64 c1,.int .i64 r1,.bool p1,.bool q1,.int .i64 c2,.int .i64 r2,.bool p2,.bool q2,.slice none 0 0] 64))=W0):=hW0;clear hW0;obtain⟨i0,hi,hz0,hz1,hz2⟩:=j1A;go_enter Tryz.func167,Tryz.ntmps167;go_wp2_with (first|(refine wpList_load_mid rfl 64 (.tmp 1) rfl w.heap.size 0 rfl (Hd.cells ⟨k,o',x,s,bb,f,c1,r1,p1,q1,c2,r2,p2,q2⟩ (.slice a n c)) _ (RR.out _) Tryz.underlying64 rfl z6 ?_)|(refine I5 rfl 64 (.tmp 3) (.tmp 5) rfl _ _ _ _ _ (by first|rfl|simp) rfl rfl rfl z6 (Hd.one ⟨k,o',x,s,bb,f,c1,r1,p1,q1,c2,r2,p2,q2⟩ rfl) ?_))
  rw[HW.out];clear HW RR;go_loopw[4] (fun i wr=>∃(q:Nat) (v:Value) (fp:List Nat),q<=n/\i=.int .i64 q/\OwAt w wr (Hd.cells ⟨k,o',x,s,bb,f,c1,r1,p1,q1,c2,r2,p2,q2⟩ (.slice a n c)) [.int .i64 0,.int .i64 0,.float .f64 0,.string ⟨#[]⟩,.bool false,.int .i64 0,.int .i64 0,.int .i64 0,.bool false,.bool false,.int .i64 0,.int .i64 0,.bool false,.bool false,.slice none 0 0] ⟨k,o',x,s,bb,f,c1,r1,p1,q1,c2,r2,p2,q2⟩ (ts.take q) v fp) (fun i _=>n-(RowKit.intOf i).toNat)
  case atStart=>exact⟨0,.slice none 0 0,[],Nat.zero_le _,rfl,by rw[List.take_zero];exact HOS.out⟩
  case round=>
   obtain⟨q,v,fp,hq,rfl,hat⟩:=hrel;have AT:Hid (OwAt w wr (Hd.cells ⟨k,o',x,s,bb,f,c1,r1,p1,q1,c2,r2,p2,q2⟩ (.slice a n c)) [.int .i64 0,.int .i64 0,.float .f64 0,.string ⟨#[]⟩,.bool false,.int .i64 0,.int .i64 0,.int .i64 0,.bool false,.bool false,.int .i64 0,.int .i64 0,.bool false,.bool false,.slice none 0 0] ⟨k,o',x,s,bb,f,c1,r1,p1,q1,c2,r2,p2,q2⟩ (ts.take q) v fp):=hat;have hlt3:=hat.lt;have x14:wr.cell? ⟨w.heap.size,14,none⟩=some (.slice a n c):=hat.b1.cell rfl;by_cases hlt:q<n
   ·have hqt:q<ts.length:=(by rw[HL.out];exact hlt);obtain⟨b,o,rfl,hFb,hns⟩:∃b o,a=some ⟨b,o,none⟩/\F b/\z8 w F b o ts:=by
     rcases H4.out with h|h
     ·rw[h.1] at hqt;simp at hqt
     ·exact h
    obtain⟨s1,hr,hni⟩:=hns.get q hqt;obtain⟨pv,lv,cv,rfl⟩:=j1G hat.own.own;obtain⟨xs,hxs⟩:=hat.own.row;have hul:Hid ((ts.take q).length=q):=(by show _=_;rw[List.length_take];omega);have hbw:b<w.heap.size:=L5 hr;have HS:Hid (∀wq,Below (w.heap.size+3) wr wq->wq.cell? ⟨w.heap.size,14,none⟩=some (.slice (some ⟨b,o,none⟩) n c)/\wq.cell? ⟨w.heap.size+2,14,none⟩=some (.slice pv lv cv)):=(fun wq hk=>⟨(hk.cell (by simp)).trans (hat.b1.cell rfl),(hk.cell (by simp)).trans (hat.b3.cell rfl)⟩);have HR:Hid (∀wq,Below (w.heap.size+3) wr wq->wq.rangeAt b (o+q*15) ((ts[q]).hd.cells s1)):=(fun wq hk=>J2 hr ((hk.block b (by omega)).trans (hat.bel.block b hbw)));have hs1:=O9 ts q hqt;have hni':∀wq,Below wr.heap.size wr wq->NdIn wq F s1 ts[q]:=(fun wq hk=>hni.mono fun b hb hl=>⟨(hk.block b (by omega)).trans (hat.bel.block b hl),hb⟩);have HC:Hid (∀wq,Below wr.heap.size wr wq->Calls Tryz.prog 167 #[(ts[q]).hd.val s1] wq fun e w'=>∃sl' fp,e=.returned ((ts[q]).hd.val sl')/\Own w' wq.heap.size sl' (ts[q]) fp/\Below wq.heap.size wq w'):=fun wq hq=>IH.out ts[q] s1 F wq (by have:=HN.out;have:=hsz.out;omega) (by have:=HM.out;have:=hsz.out;omega) (hni' wq hq)
    have hu3:Hid (ts.take (q+1)=ts.take q++[ts[q]]):=(by show _=_;rw[List.take_add_one,List.getElem?_eq_getElem hqt];rfl);have O1:Hid (s1.oneCell'=true):=hni.one;clear hs1 hni hni' hr hns;generalize ts[q]=u at *;generalize ts.take q=us at *;have hkb:(q:Int)+1<=9223372036854775807:=(by have:=HLM.out;omega);have hq0:(0:Int)<=(q:Int):=(by omega);have hqn:(q:Int)<(n:Int):=(by omega);have HX3:Hid (∀w2,Below wr.heap.size wr w2->∀o,(w2.alloc o).ownsRow (w.heap.size+3) 64 15 (.slice pv lv cv) us.length xs):=(fun w2 h2 o=>(j0h hxs h2).alloc o);clear hat hxs;go_wp2_with fail;refine wp_region_noPanic ?_;refine j3H (fun w':World=>Below (w.heap.size+3) wr w') 11 (by kernel_rfl) ((Below.refl _ _).drew) (fun hHeld=>?_);refine I4 (i:=0) (v:=?_) (some 14) rfl rfl (by kernel_rfl) (fun _ _ _ h=>h) (Or.inl ⟨by rfl,?_⟩) hHeld ?_;rotate_left
    ·intro w' hSw;obtain⟨s0,s1⟩:=HS.out _ hSw;clear hSw;go_simp;try with_reducible rfl
    simp only[Act.put,Sz0,Sz1,Sz2];refine I4 (i:=1) (v:=?_) (some 15) rfl rfl (by kernel_rfl) (fun _ _ _ h=>h) (Or.inl ⟨by rfl,?_⟩) hHeld ?_;rotate_left
    ·intro w' hSw;obtain⟨s0,s1⟩:=HS.out _ hSw;clear hSw;go_simp;try with_reducible rfl
    simp only[Act.put,Sz0,Sz1,Sz2];refine I4 (i:=2) (v:=?_) (some 16) rfl rfl (by kernel_rfl) (fun _ _ _ h=>h) (Or.inl ⟨by rfl,?_⟩) hHeld ?_;rotate_left
    ·intro w' hSw;obtain⟨s0,s1⟩:=HS.out _ hSw;clear hSw;go_simp;try with_reducible rfl
    simp only[Act.put,Sz0,Sz1,Sz2];refine I4 (i:=3) (v:=?_) (some 17) rfl rfl (by kernel_rfl) (fun _ _ _ h=>h) (Or.inl ⟨by rfl,?_⟩) hHeld ?_;rotate_left
    ·intro w' hSw;obtain⟨s0,s1⟩:=HS.out _ hSw;clear hSw;go_simp;try with_reducible rfl
    simp only[Act.put,Sz0,Sz1,Sz2];refine I4 (i:=4) (v:=?_) (some 18) rfl rfl (by kernel_rfl) (fun _ _ _ h=>h) (Or.inl ⟨by rfl,?_⟩) hHeld ?_;rotate_left
    ·intro w' hSw;obtain⟨s0,s1⟩:=HS.out _ hSw;clear hSw;go_simp;try with_reducible rfl
    simp only[Act.put,Sz0,Sz1,Sz2];refine I4 (i:=5) (v:=?_) (some 19) rfl rfl (by kernel_rfl) (fun _ _ _ h=>h) (Or.inl ⟨by rfl,?_⟩) hHeld ?_;rotate_left
    ·intro w' hSw;obtain⟨s0,s1⟩:=HS.out _ hSw;clear hSw;go_simp;try with_reducible rfl
    simp only[Act.put,Sz0,Sz1,Sz2];refine I4 (i:=6) (v:=u.hd.val s1) (some 20) rfl rfl (by kernel_rfl) (fun _ _ _ h=>h) (Or.inl ⟨by rfl,fun w' hSw=>j4G (u.hd.cells s1) rfl rfl (HR.out w' hSw) rfl⟩) hHeld ?_;simp only[Act.put,Sz0,Sz1,Sz2];refine J9 (i:=7) (by kernel_rfl) rfl rfl (fun K hK=>?_);go_simp;refine(HC.out _ ((Below.refl _ _).drew)).mono ?_;rintro e w2 ⟨su,fu,rfl,hown,hbl⟩;have hb2:Below wr.heap.size wr w2:=((Below.refl wr.heap.size wr).drew).trans hbl;have HB2:Hid (Below wr.heap.size wr w2):=hb2;have HU:Hid (Own w2 wr.heap.size su u fu):=hown;refine hK.out _ _ (fun _=>hb2.mono hlt3) (fun _=>?_);clear hK K hHeld hown hbl HC HS HR x14;refine J9 (i:=8) (by kernel_rfl) rfl rfl (fun K hK=>?_);go_simp;refine hK.out _ _ (fun _=>(hb2.alloc hb2.size _).mono hlt3) (fun _=>?_);clear hK K;refine J9 (i:=9) (by kernel_rfl) rfl rfl (fun K hK=>?_);refine Z5 _ (.tmp 15) (.tmp 22) 62 rfl (w.heap.size+3) 64 i0 _ 15 128 Tryz.underlying62 hi hz0 hz1 hz2 rfl (by decide) (.slice pv lv cv) us.length xs rfl (HX3.out w2 HB2.out _) ⟨w2.heap.size,0,none⟩ 1 1 (u.hd.cells su) rfl rfl ?c1 ?c2 (by decide) ?c3 ?c4 ?c5 ?_
    case c1=>
     intro j u' hj;rw[Q0,Nat.zero_add];exact(Blk.new w2 (u.hd.cells su) 64).cell hj
    case c2=>exact j0a u.hd HU.out.own.one
    case c3=>rw[hul.out];unfold maxLen;omega
    case c4=>rw[hul.out];have:=HLM.out;omega
    case c5=>have:=hb2.size;simp[World.size_alloc];omega
    intro g c' w4 ho hgr ht;obtain⟨fp',hat5⟩:=AT.out.step HB2.out (Nat.le_refl _) HU.out (HX3.out w2 HB2.out _) ho hgr ht;have h4b:Below (w.heap.size+3) wr w4:=by
     refine⟨hgr.os.trans hb2.os,hgr.tape.trans hb2.tape,hgr.output.trans hb2.output,?_,fun i hi=>?_⟩
     ·have h1:=hgr.size;have h2:=hb2.size;rw[World.size_alloc] at h1;omega
     ·rw[hgr.block i (by rw[World.size_alloc];have:=hb2.size;omega) (fun e=>by have:=((HX3.out w2 HB2.out (.cells #[] 0)).lt i e.symm).1;omega),Below.heap_alloc _ _ _ (by have:=hb2.size;omega)];exact hb2.block i (by omega)
    have A5:Hid (OwAt w _ _ _ _ _ _ fp'):=hat5;refine hK.out _ _ (fun _=>h4b) (fun hHeld=>?_);have f3:w4.frozen? ⟨w.heap.size+2,14,none⟩=false:=by
     have:Blk w4 (w.heap.size+2) _ 64:=(h4b.block _ (by omega)).trans AT.out.b3;exact this.froz _
    have c3:w4.cell? ⟨w.heap.size+2,14,none⟩=some (.slice pv lv cv):=by
     have:Blk w4 (w.heap.size+2) _ 64:=(h4b.block _ (by omega)).trans AT.out.b3;exact this.cell rfl
    clear hK K hat5 ho hgr ht h4b hb2;simp only[Act.put,List.setIfInBounds_toArray];refine J9 (i:=10) (by kernel_rfl) rfl rfl (fun K hK=>?_);go_simp;refine hK.out _ _ (fun _=>hHeld (by decide)) (fun _=>?_);clear hK K;refine J9 (i:=11) (by kernel_rfl) rfl rfl (fun K hK=>?_);go_simp;refine hK.out _ _ (fun h=>absurd rfl h) (fun _=>?_);clear hK K hHeld c3 f3;refine j3A (by kernel_rfl) ?_;refine NoPanic.normal ?_;go_wp2_with fail;go_roundw
    case rel=>exact⟨q+1,_,fp',by omega,by go_num,by rw[hu3.out];exact A5.out⟩
    case measure=>simp only[RowKit.intOf];omega
   ·have hqe:q=n:=(by omega);subst hqe;have hqn:¬((q:Int)<(q:Int)):=(by omega);have hall:ts.take q=ts:=(by rw[List.take_of_length_le (by rw[HL.out];exact Nat.le_refl _)]);have R3:Hid (wr.rangeAt (w.heap.size+2) 0 (Hd.cells ⟨k,o',x,s,bb,f,c1,r1,p1,q1,c2,r2,p2,q2⟩ v)):=(fun j u hj=>by rw[Nat.zero_add];exact hat.b3.cell hj);have T1:Hid (wr.there (w.heap.size+1) 0 15):=I1 hat.b2 _ _ (by simp);obtain⟨W5,hW5⟩:∃W5,wr.setCells (w.heap.size+1) 0 (Hd.cells ⟨k,o',x,s,bb,f,c1,r1,p1,q1,c2,r2,p2,q2⟩ v)=W5:=⟨_,rfl⟩;have HW5:Hid (wr.setCells (w.heap.size+1) 0 (Hd.cells ⟨k,o',x,s,bb,f,c1,r1,p1,q1,c2,r2,p2,q2⟩ v)=W5):=hW5;have E1:Hid (W5.heap[w.heap.size+1]? = some (.cells (Hd.cells ⟨k,o',x,s,bb,f,c1,r1,p1,q1,c2,r2,p2,q2⟩ v).toArray 64 (0,0))):=by
     show _=_;rw[<- hW5];exact T4 (cs:=(Hd.cells ⟨k,o',x,s,bb,f,c1,r1,p1,q1,c2,r2,p2,q2⟩ v).toArray) hat.b2 (by simp)
    have OW:Hid (Own W5 w.heap.size v (.mk ⟨k,o',x,s,bb,f,c1,r1,p1,q1,c2,r2,p2,q2⟩ (ts)) fp):=by
     show Own _ _ _ _ _;rw[<- hall,<- hW5];refine⟨hat.own.own.mono (fun b hb=>J1 (by have:=(hat.own.new b hb).1;omega) _ _ _),hat.own.nodup,fun b hb=>?_⟩;rw[Q2];exact⟨by have:=(hat.own.new b hb).1;omega,(hat.own.new b hb).2⟩
    have BW:Hid (Below w.heap.size w W5):=by
     show Below _ _ _;rw[<- hW5];exact R8 hat.bel (Nat.le_succ _) _ _
    have O1:Hid (v.oneCell'=true):=hat.own.own.one;clear hat AT IH H4 HOS hW5 hall;go_wp2_with (first|(refine wpList_load_mid rfl 64 (.tmp 3) rfl (w.heap.size+2) 0 rfl (Hd.cells ⟨k,o',x,s,bb,f,c1,r1,p1,q1,c2,r2,p2,q2⟩ v) _ R3.out Tryz.underlying64 rfl z6 ?_)|(refine L7 rfl 64 (.tmp 2) (.tmp 25) rfl (w.heap.size+1) 0 _ rfl rfl T1.out z6 (Hd.one ⟨k,o',x,s,bb,f,c1,r1,p1,q1,c2,r2,p2,q2⟩ O1.out) W5 HW5.out ?_));refine bodyPost_ret (results_cell_row rfl _ _ (w.heap.size+1) 64 _ (0,0) _ rfl E1.out Tryz.underlying64 rfl z6) rfl ?_;exact⟨_,rfl,⟨_,OW.out⟩,BW.out⟩
end
section
open Go.RowKit Go.Maps
noncomputable def kl (c r:Int):Lit:=(keyOf Tryz.prog 57 (.agg #[.int .i64 c,.int .i64 r])).getD (.bool false)
theorem R4 {c r:Int}(hc:I64 c)(hr:I64 r):keyOf Tryz.prog 57 (.agg #[.int .i64 c,.int .i64 r])=some (kl c r):=by
 obtain⟨l,hl⟩:=jAB c r hc hr;have e:kl c r=l:=by unfold kl;rw[hl,Option.getD_some]
 rw[e];exact hl
theorem j1C {c r c' r':Int}(hc:I64 c)(hr:I64 r)(hc':I64 c')(hr':I64 r')(h:kl c r=kl c' r'):c=c'/\r=r':=by
 have h1:=R4 hc hr;have h2:=R4 hc' hr';rw[<- h] at h2;have:=J5.inj h1 h2
 simpa using this
def rawE:Value->Option (DataW Value×List MemPlace):=fun v=>some (.held v,[])
def zCv:Value:=.agg #[.int .i64 0,.int .i64 0,.float .f64 0,.string ⟨#[]⟩,.bool false,.int .i64 0,.int .i64 0,.int .i64 0,.float .f64 0,.string ⟨#[]⟩,.bool false,.int .i64 0,.int .i64 0,.int .i64 0,.bool false,.bool false,.int .i64 0,.int .i64 0,.bool false,.bool false,.slice none 0 0]
theorem j1n (w:World):(zeroValue 66).run Tryz.prog w=.ok zCv w:=by kernel_rfl
abbrev Cc:=(Int×Int)×Ct
structure X1 (w:World) (F:Nat->Prop) (D:DataW Value) (L:List Cc):Prop where
 size:Maps.size D=L.length
 rng:∀x∈L,I64 x.1.1/\I64 x.1.2
 keys:∀c r,I64 c->I64 r->(Maps.has D (kl c r)=true↔∃ct,((c,r),ct)∈L)
 vals:∀c r ct,((c,r),ct)∈L->∃sl,D.atKey (kl c r) (.held zCv)=.held (ct.val sl)/\NdIn w F sl ct.t
 once:L.Pairwise (fun x y=>x.1≠y.1)
def j9 (w:World) (F:Nat->Prop) (g:Nat) (L:List Cc):Prop:=
 F g/\((w.heap[g]? = some (.cells #[.map none] 124 (0,0))/\L=[]) ∨
  ∃m D,w.heap[g]? = some (.cells #[.map (some m)] 124 (0,0))/\F m/\m≠g/\w.ownsMap Tryz.prog 57 rawE m 4096 D/\X1 w F D L)
theorem j4v (w:World):Calls Tryz.prog 24 #[] w fun e w'=>e=.returned (.pointer (some ⟨w.heap.size,0,none⟩))/\w'=w.alloc (.cells #[.map none] 124):=by
 go_enter Tryz.func24,Tryz.ntmps24;go_wp2;go_ret;exact⟨rfl,rfl⟩
theorem j4T (w:World)(F:Nat->Prop)(hF:F w.heap.size):j9 (w.alloc (.cells #[.map none] 124)) F w.heap.size []:=
 ⟨hF,.inl ⟨heap_alloc_new _ _,rfl⟩⟩
theorem jAO (w:World)(F:Nat->Prop)(g:Nat)(L:List Cc)(h:j9 w F g L):Calls Tryz.prog 29 #[.pointer (some ⟨g,0,none⟩)] w fun e w'=>e=.returned (.int .i64 L.length)/\w'=w:=by
 obtain⟨_,h⟩:=h;rcases h with ⟨hb,rfl⟩|⟨m,D,hb,_,hne,hown,hm⟩
 ·have c0:w.cell? ⟨g,0,none⟩=some (.map none):=cell_of_row w g 0 _ _ _ hb;clear hb;go_enter Tryz.func29,Tryz.ntmps29;go_wp2;go_ret;exact⟨rfl,rfl⟩
 ·have c0:w.cell? ⟨g,0,none⟩=some (.map (some m)):=cell_of_row w g 0 _ _ _ hb;have HS:Hid (Maps.size D=L.length):=hm.size;have HO:Hid (w.ownsMap Tryz.prog 57 rawE m 4096 D):=hown;clear hb hown hm;go_enter Tryz.func29,Tryz.ntmps29;go_wp2_with (at_len;refine wpList_len_own _ rfl _ 122 rfl 57 66 Tryz.underlying122 rawE m 4096 D rfl HO.out ?_);go_ret;exact⟨rInt (by rw[HS.out]),rfl⟩
structure Lk (w:World) (g:Nat) (c r:Int) (mv:Option Nat) (v:Value) (b:Bool):Prop where
 cell:w.heap[g]? = some (.cells #[.map mv] 124 (0,0))
 ne:∀m,mv=some m->m≠g/\m<w.heap.size
 two:∀w':World,(∀m,mv=some m->w'.heap[m]? = w.heap[m]?)->(Instr.lookup 122 (.map mv) (.agg #[.int .i64 c,.int .i64 r]) true).run Tryz.prog w'=.ok (.tuple #[v,.bool b]) w'
 one:∀w':World,(∀m,mv=some m->w'.heap[m]? = w.heap[m]?)->(Instr.lookup 122 (.map mv) (.agg #[.int .i64 c,.int .i64 r]) false).run Tryz.prog w'=.ok v w'
theorem j0A {w w':World}{m n:Nat}{D:DataW Value}(h:w.ownsMap Tryz.prog 57 rawE m n D)(hb:w'.heap[m]? = w.heap[m]?):w'.ownsMap Tryz.prog 57 rawE m n D:=by
 obtain⟨es,clock,h1,h2⟩:=h;exact⟨es,clock,hb.trans h1,h2⟩
theorem j5S {v:Value}{d:DataW Value}{ps:List MemPlace}(h:rawE v=some (d,ps)):.held v=d:=congrArg Prod.fst (Option.some.inj h)
theorem j2Q {w:World}{F:Nat->Prop}{g:Nat}{L:List Cc}(h:j9 w F g L){c r:Int}(hc:I64 c)(hr:I64 r):
 ∃mv v b,Lk w g c r mv v b/\((b=true/\∃ct sl,((c,r),ct)∈L/\v=ct.val sl/\NdIn w F sl ct.t)∨(b=false/\v=zCv/\∀ct,((c,r),ct)∉L)):=by
 obtain⟨_,h⟩:=h;have hk:=R4 hc hr;rcases h with ⟨hb,rfl⟩|⟨m,D,hb,_,hne,hown,hm⟩
 ·refine⟨none,zCv,false,⟨hb,fun m e=>(by cases e),fun w' _=>?_,fun w' _=>?_⟩,.inr ⟨rfl,rfl,fun ct hct=>(by cases hct)⟩⟩
  ·exact Maps.look_nil true J5 Tryz.underlying122 (j1n w') hk
  ·exact Maps.look_nil false J5 Tryz.underlying122 (j1n w') hk
 ·have key2:∀w':World,(∀m',some m=some m'->w'.heap[m']? = w.heap[m']?)->∃v,(Instr.lookup 122 (.map (some m)) (.agg #[.int .i64 c,.int .i64 r]) true).run Tryz.prog w'=.ok (.tuple #[v,.bool (Maps.has D (kl c r))]) w'/\D.atKey (kl c r) (.held zCv)=.held v:=by
   intro w' hw';obtain⟨v,ps,h1,h2⟩:=(j0A hown (hw' m rfl)).look_ok J5 Tryz.underlying122 (j1n w') (zd:=.held zCv) (zp:=[]) rfl hk;refine⟨v,h1,?_⟩;exact(j5S h2).symm
  have key1:∀w':World,(∀m',some m=some m'->w'.heap[m']? = w.heap[m']?)->∃v,(Instr.lookup 122 (.map (some m)) (.agg #[.int .i64 c,.int .i64 r]) false).run Tryz.prog w'=.ok v w'/\D.atKey (kl c r) (.held zCv)=.held v:=by
   intro w' hw';obtain⟨v,ps,h1,h2⟩:=(j0A hown (hw' m rfl)).lookup J5 Tryz.underlying122 (j1n w') (zd:=.held zCv) (zp:=[]) rfl hk;refine⟨v,h1,?_⟩;exact(j5S h2).symm
  obtain⟨v,_,hv⟩:=key2 w (fun _ _=>rfl);have two:∀w':World,(∀m',some m=some m'->w'.heap[m']? = w.heap[m']?)->(Instr.lookup 122 (.map (some m)) (.agg #[.int .i64 c,.int .i64 r]) true).run Tryz.prog w'=.ok (.tuple #[v,.bool (Maps.has D (kl c r))]) w':=by
   intro w' hw';obtain⟨v',h1,h2⟩:=key2 w' hw';rw[hv] at h2;rw[DataW.held.inj h2];exact h1
  have one:∀w':World,(∀m',some m=some m'->w'.heap[m']? = w.heap[m']?)->(Instr.lookup 122 (.map (some m)) (.agg #[.int .i64 c,.int .i64 r]) false).run Tryz.prog w'=.ok v w':=by
   intro w' hw';obtain⟨v',h1,h2⟩:=key1 w' hw';rw[hv] at h2;rw[DataW.held.inj h2];exact h1
  refine⟨some m,v,Maps.has D (kl c r),⟨hb,fun m' e=>by cases e;exact⟨hne,hown.lt⟩,two,one⟩,?_⟩;by_cases hh:Maps.has D (kl c r)=true
  ·obtain⟨ct,hct⟩:=(hm.keys c r hc hr).1 hh;obtain⟨sl,h1,h2⟩:=hm.vals c r ct hct;rw[hv] at h1;exact .inl ⟨hh,ct,sl,hct,DataW.held.inj h1,h2⟩
  ·have hf:Maps.has D (kl c r)=false:=(by simpa using hh);refine .inr ⟨hf,?_,fun ct hct=>hh ((hm.keys c r hc hr).2 ⟨ct,hct⟩)⟩;have:=atKey_of_not_has hf (.held zCv);rw[hv] at this;exact DataW.held.inj this
theorem Kp.of_turned {w w':World}{m:Nat}(h:w.mapTurned w' m):Kp w w' (fun i=>i=m):=Kp.of_grown h.grown (fun i e=>by cases e;rfl)
theorem j54 {w:World}{m n n':Nat}{D:DataW Value}(h:w.ownsMap Tryz.prog 57 rawE m n D)(hn:n<=n'):w.ownsMap Tryz.prog 57 rawE m n' D:=by
 obtain⟨es,clock,h1,h2,h3,h4⟩:=h;exact⟨es,clock,h1,h2,Nat.le_trans h3 hn,h4⟩
theorem j9E (w:World)(d:Nat)(p:Option Nat):(Op.equalIn (d+1) 122 (.map p) (.map none)).run Tryz.prog w=.ok p.isNone w:=by
 cases p <;> simp[Op.equalIn,run_underlying Tryz.underlying122]
theorem j4F (p:Option Nat)(w:World):(binOp .eql 122 (.map p) (.map none)).run Tryz.prog w=.ok (.bool p.isNone) w:=by
 simp only[binOp];simp[show Op.equal 122 (.map p) (.map none)=Op.equalIn (9999+1) 122 (.map p) (.map none) from rfl,j9E w 9999 p]
theorem j4h {k:TypeId}(K:Keyed Tryz.prog k){v:Value}{l:Lit}(h:keyOf Tryz.prog k v=some l){D:DataW Value}(hD:IsMap D)(d:DataW Value):Maps.has (D.put l d) l=true/\∀z,(D.put l d).atKey l z=d:=⟨has_put_same hD (K.key h) d,fun z=>atKey_put_same hD (K.key h) d z⟩
theorem j9h {w:World}{F:Nat->Prop}{c r:Int}{ct:Ct}{sl:Value}(hc:I64 c)(hr:I64 r)(hin:NdIn w F sl ct.t):
 X1 w F ((DataW.map []:DataW Value).put (kl c r) (.held (ct.val sl))) [((c,r),ct)]:=by
 have hk:=R4 hc hr;have hput:=j4h J5 hk (D:=(.map []:DataW Value)) ⟨_,rfl⟩ (.held (ct.val sl));have hne:∀x y,I64 x->I64 y->(x,y)≠(c,r)->kl x y≠kl c r:=fun x y hx hy h e=>h (by
  have:=j1C hx hy hc hr e;exact Prod.ext this.1 this.2)
 refine⟨?_,fun x hx=>?_,fun x y hx hy=>?_,fun x y ct' h=>?_,List.pairwise_singleton _ _⟩
 ·generalize kl c r=K at *;have hT:Tidy (DataW.map []:DataW Value):=by simp[Tidy]
  rw[size_put hT]
  rfl
 ·rw[List.mem_singleton] at hx;subst hx;exact⟨hc,hr⟩
 ·by_cases e:(x,y)=(c,r)
  ·cases e
   exact⟨fun _=>⟨ct,List.mem_singleton.2 rfl⟩,fun _=>hput.1⟩
  ·rw[has_put_other (hne x y hx hy e)];constructor
   ·intro h;cases h
   ·rintro⟨ct',h⟩;rw[List.mem_singleton] at h;cases h
    exact absurd rfl e
 ·rw[List.mem_singleton] at h;cases h
  exact⟨sl,hput.2 _,hin⟩
def putL (L:List Cc) (k:Int×Int) (ct:Ct):List Cc:=(k,ct)::L.filter (fun x=>decide (x.1≠k))
theorem j17 {L:List Cc}{k:Int×Int}(h:∀ct,(k,ct)∉L):L.filter (fun x=>decide (x.1≠k))=L:=by
 rw[List.filter_eq_self];intro x hx;simp only[ne_eq,decide_not,Bool.not_eq_true',decide_eq_false_iff_not];intro e;exact h x.2 (by rw[<- e];exact hx)
theorem j0X {k:Int×Int}{ct:Ct}:∀ {L:List Cc},L.Pairwise (fun x y=>x.1≠y.1)->(k,ct)∈L->(L.filter (fun x=>decide (x.1≠k))).length+1=L.length
 | [],_,h=>by cases h
 | x::L,hp,h=>by
  have hp':=List.pairwise_cons.1 hp;rcases List.mem_cons.1 h with e|e
  ·have hn:∀c',(k,c')∉L:=(fun c' hc'=>(hp'.1 _ hc') (by rw[<- e]));have hx:x.1=k:=(by rw[<- e]);rw[List.filter_cons_of_neg (by simp[hx]),j17 hn,List.length_cons]
  ·have hx:x.1≠k:=hp'.1 _ e;rw[List.filter_cons_of_pos (by simp[hx]),List.length_cons,List.length_cons,j0X hp'.2 e]
theorem jBx {L:List Cc}{k:Int×Int}{ct:Ct}(h:L.Pairwise (fun x y=>x.1≠y.1)):(putL L k ct).Pairwise (fun x y=>x.1≠y.1):=by
 refine List.pairwise_cons.2 ⟨fun x hx=>?_,List.Pairwise.filter _ h⟩;have:=(List.mem_filter.1 hx).2;simp only[ne_eq,decide_not,Bool.not_eq_true',decide_eq_false_iff_not] at this;exact fun e=>this e.symm
theorem Y6 {L:List Cc}{k:Int×Int}{ct:Ct}(x:Cc):x∈putL L k ct↔x=(k,ct)∨(x∈L/\x.1≠k):=by
 unfold putL;rw[List.mem_cons,List.mem_filter];simp
theorem j9f {w w':World}{F:Nat->Prop}{D:DataW Value}{L:List Cc}{m n:Nat}{c r:Int}{ct:Ct}{sl:Value}(hown:w.ownsMap Tryz.prog 57 rawE m n D)(hm:X1 w F D L)(hc:I64 c)(hr:I64 r)(hin:NdIn w' F sl ct.t)(hold:∀sl t,NdIn w F sl t->NdIn w' F sl t):
 X1 w' F (D.put (kl c r) (.held (ct.val sl))) (putL L (c,r) ct):=by
 have hkey:=R4 hc hr;have hput:=j4h J5 hkey hown.isMap (.held (ct.val sl));have hT:=hown.tidy J5;have hne:∀x y,I64 x->I64 y->(x,y)≠(c,r)->kl x y≠kl c r:=fun x y hx hy h e=>h (by
  have:=j1C hx hy hc hr e;exact Prod.ext this.1 this.2)
 refine⟨?_,fun x hx=>?_,fun x y hx hy=>?_,fun x y ct' h=>?_,jBx hm.once⟩
 ·rw[size_put hT,hm.size];unfold putL;rw[List.length_cons];by_cases hh:Maps.has D (kl c r)=true
  ·obtain⟨ct',hmem⟩:=(hm.keys c r hc hr).1 hh;rw[if_pos hh,j0X hm.once hmem]
  ·rw[if_neg hh,j17 (fun ct' hmem=>hh ((hm.keys c r hc hr).2 ⟨ct',hmem⟩))]
 ·rcases(Y6 x).1 hx with rfl|⟨h,_⟩
  ·exact⟨hc,hr⟩
  ·exact hm.rng x h
 ·by_cases e:(x,y)=(c,r)
  ·cases e
   exact⟨fun _=>⟨ct,(Y6 _).2 (.inl rfl)⟩,fun _=>hput.1⟩
  ·rw[has_put_other (hne x y hx hy e),hm.keys x y hx hy];constructor
   ·rintro⟨ct',h⟩;exact⟨ct',(Y6 _).2 (.inr ⟨h,e⟩)⟩
   ·rintro⟨ct',h⟩;rcases(Y6 _).1 h with h|h
    ·cases h;exact absurd rfl e
    ·exact⟨ct',h.1⟩
 ·rcases(Y6 _).1 h with h|⟨h,e⟩
  ·cases h
   exact⟨sl,hput.2 _,hin⟩
  ·have hxy:=hm.rng _ h;obtain⟨sl',e1,e2⟩:=hm.vals x y ct' h;exact⟨sl',by rw[atKey_put_other (hne x y hxy.1 hxy.2 e)];exact e1,hold _ _ e2⟩
theorem U5 {o:Oper}{a:Act}{x:Operand}{g:Nat}{w:World}(cs:Array Value)(ho:o.op=.load 66 x)(hx:a.eval x=.pointer (some ⟨g,0,none⟩))(hg:w.heap[g]? = some (.cells cs 66 (0,0)))(hcs:cs.size=21):
 (execOp a.eval o).run Tryz.prog w=.ok (.value (.agg cs)) w:=by
 have hl:=run_loadVar_row (P:=Tryz.prog) w g 66 66 cs (0,0) _ hg Tryz.underlying66 rfl (by rw[hcs];exact E8);unfold execOp;simp only[ho,hx,Instr.loadAt,Instr.sureAddr,Sem.run_bind,Sem.run_pure,Result.andThen_ok,hl]
theorem jA7 (g:Nat)(c r:Int)(hc:I64 c)(hr:I64 r)(ct:Ct)(sl:Value)(F:Nat->Prop)(w:World)(hb:Blk w g [.map none] 124)(hF:F g)(hFn:∀i,w.heap.size<=i->F i)(hin:NdIn w (fun b=>F b/\b≠g/\b<w.heap.size) sl ct.t):
 Calls Tryz.prog 60 #[.pointer (some ⟨g,0,none⟩),.agg #[.int .i64 c,.int .i64 r],ct.val sl] w fun e w'=>e=.returned (.tuple #[])/\j9 w' F g [((c,r),ct)]/\Kp w w' (fun i=>i=g):=by
 have hkey:=R4 hc hr;obtain⟨W1,hW1⟩:∃W1,(w.alloc (.cells #[.int .i64 c,.int .i64 r] 57)).alloc (.cells (ct.cells sl).toArray 66)=W1:=⟨_,rfl⟩;have k1:Kp w W1 Nul:=by rw[<- hW1];exact((Kp.refl w Nul).alloc _).alloc _
 have s1:W1.heap.size=w.heap.size+1+1:=by rw[<- hW1];simp
 have hglt:g<w.heap.size:=hb.lt;have hA1:Blk W1 w.heap.size [.int .i64 c,.int .i64 r] 57:=by rw[<- hW1];exact(Blk.new w [.int .i64 c,.int .i64 r] _).alloc _
 have hC1:Blk W1 (w.heap.size+1) (ct.cells sl) 66:=by
  have:=Blk.new (w.alloc (.cells #[.int .i64 c,.int .i64 r] 57)) (ct.cells sl) 66;rw[World.size_alloc] at this;rw[<- hW1];exact this
 have hb1:=hb.kp k1 (fun x=>x);obtain⟨W2,hW2⟩:∃W2,W1.alloc (.map #[] 0)=W2:=⟨_,rfl⟩;obtain⟨W3,hW3⟩:∃W3,W2.setCell ⟨g,0,none⟩ (.map (some W1.heap.size))=W3:=⟨_,rfl⟩;have k2:Kp W1 W2 Nul:=by rw[<- hW2];exact(Kp.refl W1 Nul).alloc _
 have hlne:W1.heap.size≠g:=by omega
 have hown2:W2.ownsMap Tryz.prog 57 rawE W1.heap.size 0 (.map []):=by rw[<- hW2];exact World.ownsMap_made W1 _ _ _
 have hown3:W3.ownsMap Tryz.prog 57 rawE W1.heap.size 0 (.map []):=by rw[<- hW3];exact hown2.setCell hlne _
 have k3:Kp W2 W3 (fun i=>i=g):=by rw[<- hW3];exact(Kp.refl W2 _).setCell ⟨g,0,none⟩ _ (.inr rfl)
 have hb2:=hb1.kp k2 (fun x=>x);have hb3:Blk W3 g [.map (some W1.heap.size)] 124:=by rw[<- hW3];exact hb2.set 0 _
 have hA3:=(hA1.kp k2 (fun x=>x)).kp k3 (by show ¬w.heap.size=g;omega);have hC3:=(hC1.kp k2 (fun x=>x)).kp k3 (by show ¬w.heap.size+1=g;omega);obtain⟨W4,hrun,hown4,hturn⟩:=hown3.drew.store J5 Tryz.underlying122 (by decide) hkey (val:=ct.val sl) (d:=.held (ct.val sl)) (ps:=[]) rfl;have k4:Kp W3 W4 (fun i=>i=W1.heap.size):=((Kp.refl W3 _).drew).trans (Kp.of_turned hturn);have k03:Kp w W3 (fun i=>i=g):=(k1.trans k2).of_nul.trans' k3 (fun i _ e=>e);have k04:Kp w W4 (fun i=>i=g):=k03.trans' k4 (fun i hi e=>absurd e (by omega));have hin4:NdIn W4 F sl ct.t:=hin.mono (fun b hB _=>⟨k04.block b hB.2.2 hB.2.1,hB.1⟩);have hHas:=j9h (F:=F) hc hr hin4;have HEND:Hid (j9 W4 F g [((c,r),ct)]/\Kp w W4 (fun i=>i=g)):=⟨⟨hF,.inr ⟨W1.heap.size,_,hb3.kp k4 (by show ¬g=W1.heap.size;omega),hFn _ (by omega),hlne,j54 hown4 (by decide),hHas⟩⟩,k04⟩;have HW1:Hid ((w.alloc (.cells #[.int .i64 c,.int .i64 r] 57)).alloc (.cells (ct.cells sl).toArray 66)=W1):=hW1
 have HW2:Hid (W1.alloc (.map #[] 0)=W2):=hW2;have HW3:Hid (W2.setCell ⟨g,0,none⟩ (.map (some W1.heap.size))=W3):=hW3;have c1:W1.cell? ⟨g,0,none⟩=some (.map none):=hb1.cell rfl;have c2:W2.cell? ⟨g,0,none⟩=some (.map none):=hb2.cell rfl;have f2:W2.frozen? ⟨g,0,none⟩=false:=hb2.froz _;have c3:W3.cell? ⟨g,0,none⟩=some (.map (some W1.heap.size)):=hb3.cell rfl;have c4:W3.cell? ⟨w.heap.size,0,none⟩=some (.int .i64 c):=hA3.cell rfl;have c5:W3.cell? ⟨w.heap.size,1,none⟩=some (.int .i64 r):=hA3.cell rfl;have hmm:(Instr.makeMap 122 none).run Tryz.prog W1=.ok (.map (some W1.heap.size)) W2:=by rw[<- hW2];rfl
 have HS3:Hid (W3.cell? ⟨g,0,none⟩=some (.map (some (w.heap.size+1+1)))/\W3.cell? ⟨w.heap.size,0,none⟩=some (.int .i64 c)/\W3.cell? ⟨w.heap.size,1,none⟩=some (.int .i64 r)/\Blk W3 (w.heap.size+1) (ct.cells sl) 66):=⟨by rw[<- s1];exact c3,c4,c5,hC3⟩;have HS4:Hid (W4.cell? ⟨g,0,none⟩=some (.map (some (w.heap.size+1+1)))/\W4.cell? ⟨w.heap.size,0,none⟩=some (.int .i64 c)/\W4.cell? ⟨w.heap.size,1,none⟩=some (.int .i64 r)/\Blk W4 (w.heap.size+1) (ct.cells sl) 66):=⟨by rw[<- s1];exact(hb3.kp k4 (by show ¬g=W1.heap.size;omega)).cell rfl,(hA3.kp k4 (by show ¬w.heap.size=W1.heap.size;omega)).cell rfl,(hA3.kp k4 (by show ¬w.heap.size=W1.heap.size;omega)).cell rfl,hC3.kp k4 (by show ¬w.heap.size+1=W1.heap.size;omega)⟩;rw[s1] at HW3 c3 hmm hrun;have hnil:=j4F none;clear hb hin hF hFn hW2 hW3 k1 k2 k3 k4 k03 k04 hA1 hC1 hA3 hC3 hb1 hb2 hb3 hown2 hown3 hown4 hturn hHas hin4 hkey s1 hlne hglt
 go_enter Tryz.func60,Tryz.ntmps60;go_wp2_with fail;rw[HW3.out];clear HW1 HW2 HW3 hW1;refine wp_region_noPanic ?_;refine F5 (fun w':World=>w'.cell? ⟨g,0,none⟩=some (.map (some (w.heap.size+1+1)))/\w'.cell? ⟨w.heap.size,0,none⟩=some (.int .i64 c)/\w'.cell? ⟨w.heap.size,1,none⟩=some (.int .i64 r)/\Blk w' (w.heap.size+1) (ct.cells sl) 66) (by kernel_rfl) (HS3.out) (fun hHeld=>?_);have tok0:True:=trivial;have tok1:True:=trivial;have tok2:True:=trivial;have tok3:True:=trivial;have tok4:True:=trivial
 iterate 5 ((first|(clear tok0;refine j3 (i:=0) (v:=?_) (some 15) rfl rfl (by kernel_rfl) (fun _ _ _ h=>h) (Or.inl ⟨by rfl,?_⟩) hHeld ?_)|(clear tok1;refine j3 (i:=1) (v:=?_) (some 16) rfl rfl (by kernel_rfl) (fun _ _ _ h=>h) (Or.inl ⟨by rfl,?_⟩) hHeld ?_)|(clear tok2;refine j3 (i:=2) (v:=?_) (some 17) rfl rfl (by kernel_rfl) (fun _ _ _ h=>h) (Or.inl ⟨by rfl,?_⟩) hHeld ?_)|(clear tok3;refine j3 (i:=3) (v:=?_) (some 18) rfl rfl (by kernel_rfl) (fun _ _ _ h=>h) (Or.inl ⟨by rfl,?_⟩) hHeld ?_)|(clear tok4;refine j3 (i:=4) (v:=?_) (some 19) rfl rfl (by kernel_rfl) (fun _ _ _ h=>h) (Or.inl ⟨by rfl,?_⟩) hHeld ?_));rotate_left;(· intro w hSw;obtain⟨s0,s1,s2,s3⟩:=hSw;clear s3;go_simp;try with_reducible rfl);simp only[Act.put,Sz0,Sz1,Sz2])
 refine j3 (i:=5) (v:=ct.val sl) (some 20) rfl rfl (by kernel_rfl) (fun _ _ _ h=>h) (Or.inl ⟨by rfl,fun w' hSw=>U5 _ rfl rfl hSw.2.2.2 rfl⟩) hHeld ?_;simp only[Act.put,Sz0,Sz1,Sz2];generalize ct.val sl=V at *;refine D9 (i:=6) (by kernel_rfl) rfl rfl (fun K hK=>?_);go_simp;refine hK.out _ _ HS4.out (fun _=>?_);clear hK K hHeld;refine wpAnyH_done (by kernel_rfl) ?_ _;refine NoPanic.normal ?_;go_wp2_with fail
 go_end0
 exact⟨rfl,HEND.out⟩
theorem jBb {w:World}{m n:Nat}{D:DataW Value}(h:w.ownsMap Tryz.prog 57 rawE m n D):w.ownsMap Tryz.prog 57 rawE m (Maps.size D) D:=by
 obtain⟨es,clock,h1,h2,h3,rfl⟩:=h;refine⟨es,clock,h1,h2,?_,rfl⟩;show es.size<=List.length _;rw[length_read];exact Nat.le_refl _
theorem jA9 (g m:Nat)(c r:Int)(hc:I64 c)(hr:I64 r)(ct:Ct)(sl:Value)(F:Nat->Prop)(D:DataW Value)(L:List Cc)(w:World)(hb:Blk w g [.map (some m)] 124)(hF:F g)(hFm:F m)(hne:m≠g)(hown:w.ownsMap Tryz.prog 57 rawE m 4096 D)(hm:X1 w F D L)(hroom:(putL L (c,r) ct).length<=4096)(hin:NdIn w F sl ct.t)(hold:∀w',Kp w w' (fun i=>i=m)->∀sl t,NdIn w F sl t->NdIn w' F sl t):
 Calls Tryz.prog 60 #[.pointer (some ⟨g,0,none⟩),.agg #[.int .i64 c,.int .i64 r],ct.val sl] w fun e w'=>e=.returned (.tuple #[])/\j9 w' F g (putL L (c,r) ct)/\Kp w w' (fun i=>i=m):=by
 have hkey:=R4 hc hr;obtain⟨W1,hW1⟩:∃W1,(w.alloc (.cells #[.int .i64 c,.int .i64 r] 57)).alloc (.cells (ct.cells sl).toArray 66)=W1:=⟨_,rfl⟩;have k1:Kp w W1 Nul:=by rw[<- hW1];exact((Kp.refl w Nul).alloc _).alloc _
 have hmlt:=hown.lt;have hA1:Blk W1 w.heap.size [.int .i64 c,.int .i64 r] 57:=by rw[<- hW1];exact(Blk.new w [.int .i64 c,.int .i64 r] _).alloc _
 have hC1:Blk W1 (w.heap.size+1) (ct.cells sl) 66:=by
  have:=Blk.new (w.alloc (.cells #[.int .i64 c,.int .i64 r] 57)) (ct.cells sl) 66;rw[World.size_alloc] at this;rw[<- hW1];exact this
 have hb1:=hb.kp k1 (fun x=>x);have hown1:=j0A hown (k1.block m hmlt (fun x=>x));obtain⟨W4,hrun,hown4,hturn⟩:=hown1.drew.store J5 Tryz.underlying122 (by decide) hkey (val:=ct.val sl) (d:=.held (ct.val sl)) (ps:=[]) rfl;have k4:Kp W1 W4 (fun i=>i=m):=((Kp.refl W1 _).drew).trans (Kp.of_turned hturn);have k04:Kp w W4 (fun i=>i=m):=k1.of_nul.trans k4;have hHas:=j9f hown hm hc hr (hold W4 k04 sl ct.t hin) (hold W4 k04);have HEND:Hid (j9 W4 F g (putL L (c,r) ct)/\Kp w W4 (fun i=>i=m)):=⟨⟨hF,.inr ⟨m,_,hb1.kp k4 (fun e=>hne e.symm),hFm,hne,j54 (jBb hown4) (by rw[hHas.size];exact hroom),hHas⟩⟩,k04⟩;have HW1:Hid ((w.alloc (.cells #[.int .i64 c,.int .i64 r] 57)).alloc (.cells #[.int .i64 ct.k,.int .i64 ct.v.k,.float .f64 ct.v.x,.string ct.v.s,.bool ct.v.b,.int .i64 ct.v.f,.int .i64 ct.t.hd.k,.int .i64 ct.t.hd.o,.float .f64 ct.t.hd.x,.string ct.t.hd.s,.bool ct.t.hd.b,.int .i64 ct.t.hd.f,.int .i64 ct.t.hd.c1,.int .i64 ct.t.hd.r1,.bool ct.t.hd.p1,.bool ct.t.hd.q1,.int .i64 ct.t.hd.c2,.int .i64 ct.t.hd.r2,.bool ct.t.hd.p2,.bool ct.t.hd.q2,sl] 66)=W1):=hW1
 have c1:W1.cell? ⟨g,0,none⟩=some (.map (some m)):=hb1.cell rfl;have HS3:Hid (W1.cell? ⟨g,0,none⟩=some (.map (some m))/\W1.cell? ⟨w.heap.size,0,none⟩=some (.int .i64 c)/\W1.cell? ⟨w.heap.size,1,none⟩=some (.int .i64 r)/\Blk W1 (w.heap.size+1) (ct.cells sl) 66):=⟨c1,hA1.cell rfl,hA1.cell rfl,hC1⟩;have HS4:Hid (W4.cell? ⟨g,0,none⟩=some (.map (some m))/\W4.cell? ⟨w.heap.size,0,none⟩=some (.int .i64 c)/\W4.cell? ⟨w.heap.size,1,none⟩=some (.int .i64 r)/\Blk W4 (w.heap.size+1) (ct.cells sl) 66):=⟨(hb1.kp k4 (fun e=>hne e.symm)).cell rfl,(hA1.kp k4 (by show ¬w.heap.size=m;omega)).cell rfl,(hA1.kp k4 (by show ¬w.heap.size=m;omega)).cell rfl,hC1.kp k4 (by show ¬w.heap.size+1=m;omega)⟩;have cL:((w.alloc (.cells #[.int .i64 c,.int .i64 r] 57)).alloc (.cells #[.int .i64 ct.k,.int .i64 ct.v.k,.float .f64 ct.v.x,.string ct.v.s,.bool ct.v.b,.int .i64 ct.v.f,.int .i64 ct.t.hd.k,.int .i64 ct.t.hd.o,.float .f64 ct.t.hd.x,.string ct.t.hd.s,.bool ct.t.hd.b,.int .i64 ct.t.hd.f,.int .i64 ct.t.hd.c1,.int .i64 ct.t.hd.r1,.bool ct.t.hd.p1,.bool ct.t.hd.q1,.int .i64 ct.t.hd.c2,.int .i64 ct.t.hd.r2,.bool ct.t.hd.p2,.bool ct.t.hd.q2,sl] 66)).cell? ⟨g,0,none⟩=some (.map (some m)):=by rw[HW1.out];exact c1
 have hnil:=j4F (some m);clear hb hin hF hFm hW1 k1 k4 k04 hA1 hC1 hb1 hown hown1 hown4 hturn hHas hkey hne hm hroom hold hmlt c1;go_enter Tryz.func60,Tryz.ntmps60;go_wp2_with fail;rw[HW1.out];clear HW1;refine wp_region_noPanic ?_;refine F5 (fun w':World=>w'.cell? ⟨g,0,none⟩=some (.map (some m))/\w'.cell? ⟨w.heap.size,0,none⟩=some (.int .i64 c)/\w'.cell? ⟨w.heap.size,1,none⟩=some (.int .i64 r)/\Blk w' (w.heap.size+1) (ct.cells sl) 66) (by kernel_rfl) (HS3.out) (fun hHeld=>?_);have tok0:True:=trivial;have tok1:True:=trivial;have tok2:True:=trivial;have tok3:True:=trivial;have tok4:True:=trivial
 iterate 5 ((first|(clear tok0;refine j3 (i:=0) (v:=?_) (some 15) rfl rfl (by kernel_rfl) (fun _ _ _ h=>h) (Or.inl ⟨by rfl,?_⟩) hHeld ?_)|(clear tok1;refine j3 (i:=1) (v:=?_) (some 16) rfl rfl (by kernel_rfl) (fun _ _ _ h=>h) (Or.inl ⟨by rfl,?_⟩) hHeld ?_)|(clear tok2;refine j3 (i:=2) (v:=?_) (some 17) rfl rfl (by kernel_rfl) (fun _ _ _ h=>h) (Or.inl ⟨by rfl,?_⟩) hHeld ?_)|(clear tok3;refine j3 (i:=3) (v:=?_) (some 18) rfl rfl (by kernel_rfl) (fun _ _ _ h=>h) (Or.inl ⟨by rfl,?_⟩) hHeld ?_)|(clear tok4;refine j3 (i:=4) (v:=?_) (some 19) rfl rfl (by kernel_rfl) (fun _ _ _ h=>h) (Or.inl ⟨by rfl,?_⟩) hHeld ?_));rotate_left;(· intro w hSw;obtain⟨s0,s1,s2,s3⟩:=hSw;clear s3;go_simp;try with_reducible rfl);simp only[Act.put,Sz0,Sz1,Sz2])
 refine j3 (i:=5) (v:=ct.val sl) (some 20) rfl rfl (by kernel_rfl) (fun _ _ _ h=>h) (Or.inl ⟨by rfl,fun w' hSw=>U5 _ rfl rfl hSw.2.2.2 rfl⟩) hHeld ?_;simp only[Act.put,Sz0,Sz1,Sz2];generalize ct.val sl=V at *;refine D9 (i:=6) (by kernel_rfl) rfl rfl (fun K hK=>?_);go_simp;refine hK.out _ _ HS4.out (fun _=>?_);clear hK K hHeld;refine wpAnyH_done (by kernel_rfl) ?_ _;refine NoPanic.normal ?_;go_wp2_with fail
 go_end0
 exact⟨rfl,HEND.out⟩
theorem jCm {fn:Func}{p:Tmp}{ty:TypeId}(h:fn.results=#[.cell p ty])(tmps:Array Value)(P:Program)(w:World):
 (results fn tmps).run P w=((asAddr (tmps.getD p undef)).run P w).andThen fun a w1=>(loadVar ty a).run P w1:=by
 simp only[results,h];simp[Sem.run_bind,Result.andThen];try rfl
theorem Y0 {ops:Array Oper}{rest:List Oper}{o:Oper}{a:Act}{w:World}{Q:Exit->Act->World->Prop}(hgd:Region.wanted o (yielded ops a.tmps)=true)(x:Operand)(ho:o.op=.load 66 x)(g:Nat)(hx:a.eval x=.pointer (some ⟨g,0,none⟩))(cs:Array Value)(hg:w.heap[g]? = some (.cells cs 66 (0,0)))(hcs:cs.size=21)
 (h:wpList Tryz.prog ops Q rest (a.put o.dst (.agg cs)) w):wpList Tryz.prog ops Q (o::rest) a w:=
 wpList_step fun K hK=>by
  simp only[hgd,if_true];exact wp_load_row 66 x ho g hx 66 cs (0,0) _ hg Tryz.underlying66 rfl (by rw[hcs];exact E8) (hK _ _ h)
theorem j1P (g:Nat)(c r:Int)(ct:Ct)(sl:Value)(V:Bool)(w:World)(hV:V=true->vC c r=false)
 (hval:∀wq,Kp w wq Nul->Calls Tryz.prog 57 #[ct.val sl] wq fun e w'=>e=.returned (.bool V)/\Kp wq w' Nul) :
 Calls Tryz.prog 25 #[.pointer (some ⟨g,0,none⟩),.agg #[.int .i64 c,.int .i64 r],ct.val sl] w fun e w'=>e=.returned (.int .i64 (if V then 20 else 1))/\Kp w w' Nul:=by
 obtain⟨W1,hW1⟩:∃W1,(w.alloc (.cells #[.int .i64 c,.int .i64 r] 57)).alloc (.cells (ct.cells sl).toArray 66)=W1:=⟨_,rfl⟩;have k1:Kp w W1 Nul:=by rw[<- hW1];exact((Kp.refl w Nul).alloc _).alloc _
 have hA1:Blk W1 w.heap.size [.int .i64 c,.int .i64 r] 57:=by rw[<- hW1];exact(Blk.new w [.int .i64 c,.int .i64 r] _).alloc _
 have hC1:Blk W1 (w.heap.size+1) (ct.cells sl) 66:=by
  have:=Blk.new (w.alloc (.cells #[.int .i64 c,.int .i64 r] 57)) (ct.cells sl) 66;rw[World.size_alloc] at this;rw[<- hW1];exact this
 have HC1:Hid (((w.alloc (.cells #[.int .i64 c,.int .i64 r] 57)).alloc (.cells (ct.cells sl).toArray 66)).heap[w.heap.size+1]? = some (.cells (ct.cells sl).toArray 66 (0,0))):=by show _=_;rw[hW1];exact hC1
 have HW1:Hid ((w.alloc (.cells #[.int .i64 c,.int .i64 r] 57)).alloc (.cells #[.int .i64 ct.k,.int .i64 ct.v.k,.float .f64 ct.v.x,.string ct.v.s,.bool ct.v.b,.int .i64 ct.v.f,.int .i64 ct.t.hd.k,.int .i64 ct.t.hd.o,.float .f64 ct.t.hd.x,.string ct.t.hd.s,.bool ct.t.hd.b,.int .i64 ct.t.hd.f,.int .i64 ct.t.hd.c1,.int .i64 ct.t.hd.r1,.bool ct.t.hd.p1,.bool ct.t.hd.q1,.int .i64 ct.t.hd.c2,.int .i64 ct.t.hd.r2,.bool ct.t.hd.p2,.bool ct.t.hd.q2,sl] 66)=W1):=hW1;have HS:Hid (∀wq,Kp W1 wq Nul->(wq.cell? ⟨w.heap.size,0,none⟩=some (.int .i64 c)/\wq.cell? ⟨w.heap.size,1,none⟩=some (.int .i64 r))):=fun wq k=>⟨(hA1.kp k (fun x=>x)).cell rfl,(hA1.kp k (fun x=>x)).cell rfl⟩
 have HV:Hid (Calls Tryz.prog 57 #[ct.val sl] W1 fun e w'=>e=.returned (.bool V)/\Kp W1 w' Nul):=hval W1 k1;have HA:Hid (V=true->∀w,Calls Tryz.prog 58 #[.agg #[.int .i64 c,.int .i64 r]] w fun e w'=>e=.returned (.bool false)/\Kp w w' Nul):=fun h w=>(j0B c r w).mono fun e w' ⟨h1,h2⟩=>⟨by rw[h1,hV h],by rw[h2];exact(Kp.refl w Nul).alloc _⟩
 have HK1:Hid (Kp w W1 Nul):=k1;clear hval hW1 k1 hA1 hC1 hV;go_enter Tryz.func25,Tryz.ntmps25;go_wp2_with (first|(refine Y0 rfl (.tmp 5) rfl (w.heap.size+1) rfl _ HC1.out rfl ?_)|fail);rw[HW1.out];refine HV.out.mono ?_;rintro e w2 ⟨rfl,hk2⟩;obtain⟨a1,a2⟩:=HS.out w2 hk2;have HK2:Hid (Kp w w2 Nul):=HK1.out.trans hk2;clear hk2 HV HC1 HW1 HS;cases V with
 | false=>
  go_wp2_with fail;go_ret;exact⟨rfl,HK2.out⟩
 | true=>
  go_wp2_with fail;refine(HA.out trivial _).mono ?_;rintro e w3 ⟨rfl,hk3⟩;have HK3:Hid (Kp w w3 Nul):=HK2.out.trans hk3;clear hk3;go_wp2_with fail;go_ret;exact⟨rfl,HK3.out⟩
theorem j3M {key:Value}{l:Lit}(h:keyOf Tryz.prog 57 key=some l):∃x y,key=.agg #[.int .i64 x,.int .i64 y]/\I64 x/\I64 y:=by
 unfold keyOf at h;rw[Tryz.underlying57] at h;simp only at h;split at h
 ·rename_i hf
  rw[Bool.and_eq_true] at hf;obtain⟨n,hn⟩:∃n,Tryz.prog.types.size=n+1:=by
   have h:=j2v;generalize Tryz.prog.types.size=s at h;cases s with
   | zero=>exact absurd h (Nat.not_lt_zero _)
   | succ n=>exact⟨n,rfl⟩
  rw[hn] at h;have hfm:=hf.2;cases key <;> simp only[Value.formed,Tryz.underlying57,j11,Bool.false_eq_true,beq_iff_eq] at hfm
  rename_i cs
  obtain⟨c0,c1,rfl⟩:∃c0 c1,cs=#[c0,c1]:=by
   obtain⟨l⟩:=cs
   match l,hfm with
   | [c0,c1],_=>exact⟨c0,c1,rfl⟩
  simp[Program.keyLits,Tryz.underlying57,Tryz.underlying3,Value.cells,j3a,j11] at h;have wf:∀z:Int,(Lit.int .i64 z).wf=true->I64 z:=fun z hz=>by
   have hm:IntKind.i64.min=-9223372036854775808:=rfl;simp[Lit.wf,hm] at hz;unfold I64;omega
  cases c0 with
  | int q0 x=>
   by_cases h0:q0=.i64/\(Lit.int .i64 x).wf=true
   ·simp only[h0,and_self,if_true,Option.bind_some,Function.comp] at h;cases c1 with
    | int q1 y=>
     by_cases h1:q1=.i64/\(Lit.int .i64 y).wf=true
     ·obtain⟨rfl,h0⟩:=h0;obtain⟨rfl,h1⟩:=h1;exact⟨x,y,rfl,wf x h0,wf y h1⟩
     ·simp[h1] at h
    | _=>simp at h
   ·simp[h0] at h
  | _=>simp at h
 ·cases h
theorem jAD {x y:Int}{l:Lit}(h:keyOf Tryz.prog 57 (.agg #[.int .i64 x,.int .i64 y])=some l):I64 x/\I64 y/\l=kl x y:=by
 obtain⟨x',y',e,hx,hy⟩:=j3M h;have e2:x=x'/\y=y':=by simpa using e
 obtain⟨rfl,rfl⟩:=e2;refine⟨hx,hy,?_⟩;have:=R4 hx hy;rw[h] at this;exact Option.some.inj this
theorem jFK (w:World){ops:Array Oper}{rest:List Oper}{o:Oper}{a:Act}{Q:Exit->Act->World->Prop}(hg:o.guard=none)(it:Operand)(hop:o.op=Op.next it false)
 (b r n:Nat) (D:DataW Value) (left:Lit->Bool) (cnt:Nat) (hit:a.eval it=.pointer (some ⟨r,0,none⟩)) (h:w.ranges Tryz.prog 57 rawE b r n D left cnt)
 (hDone:cnt=0->(∀kl,left kl=false)->wpList Tryz.prog ops Q rest (a.put o.dst (.tuple #[.bool false])) w)
 (hMore:∀(x:Int×Int) (c:Value) (w':World) (cnt':Nat),(I64 x.1/\I64 x.2)->left (kl x.1 x.2)=true->(∀zd,D.atKey (kl x.1 x.2) zd=.held c)->w'.ranges Tryz.prog 57 rawE b r n D (fun z=>left z && !z.sameKey (kl x.1 x.2)) cnt'->cnt'<cnt ->
  w.grownBy w' (some r)->w'.heap.size=w.heap.size->(Instr.entry (.pointer (some ⟨r,0,none⟩))).run Tryz.prog w'=.ok (.tuple #[.agg #[.int .i64 x.1,.int .i64 x.2],c]) w'->wpList Tryz.prog ops Q rest (a.put o.dst (.tuple #[.bool true,.agg #[.int .i64 x.1,.int .i64 x.2],c])) w') :
 wpList Tryz.prog ops Q (o::rest) a w:=
 wpList_next_ranges w hg it hop 57 J5 rawE (fun x:Int×Int=>Value.agg #[.int .i64 x.1,.int .i64 x.2]) (fun c:Value=>c) (fun key kl hkey=>by obtain⟨x,y,rfl,_⟩:=j3M hkey;exact⟨(x,y),rfl⟩) (fun v y hv=>⟨v,rfl⟩)
  b r n D left cnt hit h hDone (fun x c kl' y w' cnt' hkey hlk hv hat hrg hlt hgr hsz hen=>by
   obtain⟨hx,hy,he⟩:=jAD (x:=x.1) (y:=x.2) (l:=kl') hkey;subst he;have hy2:y.1=.held c:=(congrArg Prod.fst (Option.some.inj hv)).symm;rw[hy2] at hat;exact hMore x c w' cnt' ⟨hx,hy⟩ hlk hat hrg hlt hgr hsz hen)
theorem j72:zNd.size=1:=by unfold zNd;rw[Nd.size,j5]
theorem j3n:cpy zNd=zNd:=by
 unfold zNd;rw[cpy,cpyL]
 rfl
theorem jFS:G8 zNd=true:=by
 unfold G8 zNd;simp[E3,j7];try decide
theorem j9.kp {w w':World}{F:Nat->Prop}{g:Nat}{L:List Cc}(h:j9 w F g L)(k:Kp w w' Nul):j9 w' F g L:=by
 obtain⟨h0,h⟩:=h;refine⟨h0,?_⟩;rcases h with ⟨hb,he⟩|⟨m,D,hb,hFm,hne,hown,hm⟩
 ·exact .inl ⟨(k.block g (Array.getElem?_eq_some_iff.1 hb).1 (fun x=>x)).trans hb,he⟩
 ·exact .inr ⟨m,D,(k.block g (Array.getElem?_eq_some_iff.1 hb).1 (fun x=>x)).trans hb,hFm,hne,j0A hown (k.block m hown.lt (fun x=>x)),⟨hm.size,hm.rng,hm.keys,fun c' r' ct' h'=>by obtain⟨sl,e1,e2⟩:=hm.vals c' r' ct' h';exact⟨sl,e1,e2.kpn k⟩,hm.once⟩⟩
end
end Go.Proofs.YtnceajanlnnfoaaGreatDoor
