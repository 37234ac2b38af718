/- value's isFault, bare, Valid, OfNumber; grid's isZeroValue. value's Valid and OfNumber; grid's isZeroValue. grid's isZeroNode and Valid. grid's Copy. A list of nodes that a function makes by append, round by round. No function of the program here. ownNode (quadrilleref17): a tree in memory of its own, as it was. -/
import Derived.Test.YtnceajanlnnfoaaGreatDoorQsXs
set_option maxHeartbeats 8000000
set_option maxRecDepth 20000
namespace Go.Proofs.YtnceajanlnnfoaaGreatDoor
open Go.RowKit
def isF (f:Int):Bool:=decide (1≤f) && decide (f≤5)
theorem isFault_at (f:Int) (w:World):Calls Tryz.prog 159 #[.int .i64 f] w fun e w'=>e=.returned (.bool (isF f))∧w'=w:=by
 have hV:Hid (isF f=(decide (1≤f) && decide (f≤5))):=rfl
 generalize isF f=V at *
 go_enter Tryz.func159,Tryz.ntmps159
 go_wp2
 all_goals
  go_ret
  refine ⟨rBool ?_,rfl⟩
  rw [hV.out]
  clear hV
  (try simp_all) <;> (try omega)
def bareV (v:Vl):Bool:=(v.k == 1 || (v.x:Int) == 0) && (v.k == 2 || decide (v.s.toList=[])) && (v.k == 3 || !v.b) && (v.k == 4 || v.f == 0)
theorem bare_at (v:Vl) (w:World):Calls Tryz.prog 157 #[v.val] w fun e w'=>e=.returned (.bool (bareV v))∧Gr w w':=by
 have G0:Hid (∀ a t,Gr w (w.alloc (.cells a t))):=fun a t=>(Gr.refl w).alloc _ _
 have hV:Hid (bareV v=((v.k == 1 || (v.x:Int) == 0) && (v.k == 2 || decide (v.s.toList=[])) && (v.k == 3 || !v.b) && (v.k == 4 || v.f == 0))):=rfl
 generalize bareV v=V at *
 obtain ⟨k,x,s,b,f⟩:=v
 simp only at *
 go_enter Tryz.func157,Tryz.ntmps157
 go_wp2
 all_goals
  go_ret
  refine ⟨rBool ?_,G0.out _ _⟩
  rw [hV.out]
  clear hV G0
  simp_all
def validV (v:Vl) (u:Bool):Bool:=bareV v && (v.k == 0 || v.k == 1 || v.k == 3 || (v.k == 2 && decide (v.s.size≤1024) && u) || (v.k == 4 && isF v.f))
theorem valid_at (v:Vl) (u:Bool) (w:World)
  (U:Hid (v.k=2→∀ wq,Gr w wq→Calls Tryz.prog 158 #[.string v.s] wq fun e w'=>e=.returned (.bool u)∧Gr wq w')) :
  Calls Tryz.prog 111 #[v.val] w fun e w'=>e=.returned (.bool (validV v u))∧Gr w w':=by
 have H1:Hid (∀ w,Calls Tryz.prog 157 #[v.val] w fun e w'=>e=.returned (.bool (bareV v))∧Gr w w'):=bare_at v
 have H2:Hid (∀ w,Calls Tryz.prog 159 #[.int .i64 v.f] w fun e w'=>e=.returned (.bool (isF v.f))∧w'=w):=isFault_at v.f
 have hV:Hid (validV v u=(bareV v && (v.k == 0 || v.k == 1 || v.k == 3 || (v.k == 2 && decide (v.s.size≤1024) && u) || (v.k == 4 && isF v.f)))):=rfl
 generalize validV v u=V at *
 generalize bareV v=B at *
 generalize isF v.f=I at *
 obtain ⟨k,x,s,b,f⟩:=v
 simp only at *
 go_enter Tryz.func111,Tryz.ntmps111
 go_wp2_with fail
 refine (H1.out _).mono ?_
 rintro e w1 ⟨rfl,hg1⟩
 have hcell:=hg1.ext.cell
 have G1:Hid (Gr w w1):=((Gr.refl _).alloc _ _).trans hg1
 clear hg1 H1
 cases B
 ·go_wp2_with fail
  go_ret
  exact ⟨rBool (by rw [hV.out];rfl),G1.out⟩
 ·by_cases k2:k=2
  ·have U2:Hid (∀ wq,Gr w wq→Calls Tryz.prog 158 #[.string s] wq fun e w'=>e=.returned (.bool u)∧Gr wq w'):=U.out k2
   subst k2
   clear U
   go_wp2_with (go_at_call 158;refine (U2.out _ G1.out).mono ?_;rintro e w2 ⟨rfl,hg2⟩;have G2:Hid (Gr w w2):=G1.out.trans hg2;clear hg2 hcell)
   ·go_ret
    refine ⟨rBool ?_,G2.out⟩
    rw [hV.out]
    clear hV
    simp_all
    try omega
   ·go_ret
    refine ⟨rBool ?_,G1.out⟩
    rw [hV.out]
    clear hV
    simp_all
    try omega
  ·clear U
   go_wp2_with (go_at_call 159;refine (H2.out _).mono ?_;rintro e w2 ⟨rfl,rfl⟩)
   all_goals
    go_ret
    refine ⟨rBool ?_,G1.out⟩
    rw [hV.out]
    clear hV hcell H2
    simp_all
theorem infoValue:(Tryz.prog.info? 59).map (·.size)=some 5:=by kernel_rfl
def zeroV (v:Vl):Bool:=v.k == 0 && bareV v
theorem isZeroValue_at (v:Vl) (w:World):Calls Tryz.prog 109 #[v.val] w fun e w'=>e=.returned (.bool (zeroV v))∧Gr w w':=by
 have H1:Hid (v.k=0→∀ wq,Calls Tryz.prog 111 #[v.val] wq fun e w'=>e=.returned (.bool (bareV v))∧Gr wq w'):=by
  intro hk wq
  have:=valid_at v false wq (fun h2=>absurd h2 (by rw [hk];decide))
  rw [show validV v false=bareV v from by unfold validV;rw [hk];simp] at this
  exact this
 have hV:Hid (zeroV v=(v.k == 0 && bareV v)):=rfl
 generalize zeroV v=V at *
 generalize bareV v=B at *
 obtain ⟨k,x,s,b,f⟩:=v
 simp only at *
 by_cases k0:k=0
 ·have H2:Hid (∀ wq,Calls Tryz.prog 111 #[.agg #[.int .i64 k,.float .f64 x,.string s,.bool b,.int .i64 f]] wq fun e w'=>e=.returned (.bool B)∧Gr wq w'):=H1.out k0
  subst k0
  clear H1
  go_enter Tryz.func109,Tryz.ntmps109
  go_wp2_with fail
  refine (H2.out _).mono ?_
  rintro e w1 ⟨rfl,hg1⟩
  have G1:Hid (Gr w w1):=((Gr.refl _).alloc _ _).trans hg1
  clear hg1 H2
  go_wp2_with fail
  go_ret
  exact ⟨rBool (by rw [hV.out];rfl),G1.out⟩
 ·clear H1
  have hk:(k == 0)=false:=by simpa using k0
  have G1:Hid (∀ a t,Gr w (w.alloc (.cells a t))):=fun a t=>(Gr.refl w).alloc _ _
  go_enter Tryz.func109,Tryz.ntmps109
  go_wp2_with fail
  go_ret
  exact ⟨rBool (by rw [hV.out,hk];rfl),G1.out _ _⟩
theorem ofNumber_at (x:Nat) (hx:x < 18446744073709551616) (w:World) :
  Calls Tryz.prog 113 #[.float .f64 x] w fun e w'=>e=.returned (.agg #[.int .i64 1,.float .f64 (one x),.string ⟨#[]⟩,.bool false,.int .i64 0])∧Gr w w':=by
 have H1:Hid (∀ w,Calls Tryz.prog 55 #[.float .f64 x] w fun e w'=>e=.returned (.float .f64 (one x))∧w'=w):=one_any x hx
 generalize one x=y at *
 go_enter Tryz.func113,Tryz.ntmps113
 go_wp2_with (go_at_call 55;refine (H1.out _).mono ?_;rintro e w' ⟨rfl,rfl⟩)
 refine bodyPost_ret (results_cell_row rfl _ _ w.heap.size 59 _ (0,0) _ rfl (heap_alloc_new _ _) Tryz.underlying59 rfl infoValue) rfl ?_
 exact ⟨rfl,(Gr.refl _).alloc _ _⟩
def zHd:Hd:=⟨0,0,0,⟨#[]⟩,false,0,0,0,false,false,0,0,false,false⟩
def zNd:Nd:=.mk zHd []
theorem zNd_ok:zNd.ok:=by unfold zNd;rw [Nd.ok,okL];exact ⟨by decide,trivial⟩
theorem zNd_in (w:World) (F:Nat→Prop):NdIn w F (.slice none 0 0) zNd:=by
 unfold zNd;rw [NdIn];exact ⟨none,0,rfl,by simp,by unfold maxLen;omega,.inl ⟨rfl,.inl rfl⟩⟩
def zeroN (t:Nd):Bool:=tsame t zNd
theorem isZeroNode_at (t:Nd) (sl:Value) (F:Nat→Prop) (w:World) (hok:t.ok) (hin:NdIn w F sl t) :
  Calls Tryz.prog 110 #[t.hd.val sl] w fun e w'=>e=.returned (.bool (zeroN t))∧Gr w w':=by
 have H1:Hid (∀ wq,Gr w wq→Calls Tryz.prog 137 #[t.hd.val sl,.agg #[.int .i64 0,.int .i64 0,.float .f64 0,.string ⟨#[]⟩,.bool false,.int .i64 0,.int .i64 0,.int .i64 0,.bool false,.bool false,.int .i64 0,.int .i64 0,.bool false,.bool false,.slice none 0 0]] wq fun e w'=>e=.returned (.bool (zeroN t))∧Gr wq w'):=
  fun wq hq=>tsame_at t zNd sl (.slice none 0 0) F F wq hok zNd_ok (hin.gr hq) (zNd_in wq F)
 generalize zeroN t=V at *
 generalize t.hd=h at *
 clear hin hok
 go_enter Tryz.func110,Tryz.ntmps110
 go_wp2_with fail
 refine (H1.out _ ((Gr.refl _).alloc _ _)).mono ?_
 rintro e w1 ⟨rfl,hg1⟩
 have G1:Hid (Gr w w1):=((Gr.refl _).alloc _ _).trans hg1
 clear hg1 H1
 go_wp2_with fail
 go_ret
 exact ⟨rfl,G1.out⟩
def validC (c:Ct) (u:Bool) (e:Int):Bool:=(c.k == 0 && (zeroV c.v && zeroN c.t)) || (c.k == 1 && (c.v.k != 0 && validV c.v u && zeroN c.t)) || (c.k == 2 && (zeroV c.v && e == 0))
def cpC (c:Ct):Ct:=⟨c.k,{ c.v with x:=one c.v.x },cpy c.t⟩
theorem infoContent:(Tryz.prog.info? 66).map (·.size)=some 21:=by kernel_rfl
theorem Ct.one (c:Ct) {sl:Value} (hs:sl.oneCell'=true):(#[.int .i64 c.k,.int .i64 c.v.k,.float .f64 c.v.x,.string c.v.s,.bool c.v.b,.int .i64 c.v.f,
 .int .i64 c.t.hd.k,.int .i64 c.t.hd.o,.float .f64 c.t.hd.x,.string c.t.hd.s,.bool c.t.hd.b,.int .i64 c.t.hd.f,.int .i64 c.t.hd.c1,.int .i64 c.t.hd.r1,.bool c.t.hd.p1,.bool c.t.hd.q1,.int .i64 c.t.hd.c2,.int .i64 c.t.hd.r2,.bool c.t.hd.p2,.bool c.t.hd.q2,sl]:Array Value).all (·.oneCell')=true:=by
 simpa [Value.oneCell'] using hs
theorem rangeAt_mid {w:World} {b:Nat} {pre l post:List Value} {t:TypeId} {fr:Nat×Nat} (hb:w.heap[b]? = some (.cells (pre ++ l ++ post).toArray t fr)):w.rangeAt b pre.length l:=by
 intro j v hj
 rw [cell_of_row w b _ _ _ _ hb]
 have hlt:j < l.length:=(List.getElem?_eq_some_iff.1 hj).1
 simp only [List.getElem?_toArray]
 rw [List.append_assoc,List.getElem?_append_right (by omega),Nat.add_sub_cancel_left,List.getElem?_append_left hlt]
 exact hj
theorem setAll_mid (pre old new post:List Value) (h:old.length=new.length):setAll (pre ++ old ++ post).toArray pre.length new=(pre ++ new ++ post).toArray:=by
 apply Array.ext_getElem?
 intro i
 rw [setAll_get _ _ _ _ (by simp;omega)]
 simp only [List.getElem?_toArray]
 by_cases h1:pre.length≤i∧i < pre.length+new.length
 ·rw [if_pos h1,List.append_assoc,List.getElem?_append_right h1.1,List.getElem?_append_left (by omega)]
 ·rw [if_neg h1]
  by_cases h2:i < pre.length
  ·rw [List.append_assoc,List.append_assoc,List.getElem?_append_left h2,List.getElem?_append_left h2]
  ·rw [List.getElem?_append_right (by simp;omega),List.getElem?_append_right (by simp;omega),List.length_append,List.length_append,h]
theorem heap_setCells_mid {w:World} {b:Nat} {pre old new post:List Value} {t:TypeId} (h:old.length=new.length) (hb:w.heap[b]? = some (.cells (pre ++ old ++ post).toArray t (0,0))) :
  (w.setCells b pre.length new).heap[b]? = some (.cells (pre ++ new ++ post).toArray t (0,0)):=by
 rw [heap_setCells_at _ _ _ _ hb,setAll_mid _ _ _ _ h]
theorem wpList_store_to {P:Program} {ops:Array Oper} {rest:List Oper} {op:Oper} {a:Act} {w:World} {Q:Exit→Act→World→Prop} (hgd:op.guard=none) (ty:TypeId) (x y:Operand) (ho:op.op=.store ty x y)
  (b o:Nat) (cells:Array Value) (hx:a.eval x=.pointer (some ⟨b,o,none⟩)) (hy:a.eval y=.agg cells)
  (ht:w.there b o cells.size) (hi:(P.info? ty).map (·.size)=some cells.size) (h1:cells.all (·.oneCell')=true) (W3:World) (hW:w.setCells b o cells.toList=W3)
  (h:wpList P ops Q rest (a.put op.dst undef) W3):wpList P ops Q (op :: rest) a w:=
 wpList_store_mid hgd ty x y ho b o cells hx hy ht hi h1 (by rw [hW];exact h)
@[go_sem] theorem field_x (a c d f:Value) (y:Nat) (w:World):(Instr.field 59 (.agg #[a,.float .f64 y,c,d,f]) 1).run Tryz.prog w=.ok (.float .f64 y) w:=by
 unfold Instr.field
 rw [Sem.run_bind,run_underlying Tryz.underlying59 w]
 simp [part,asAgg,isAgg,run_underlying Tryz.underlying50 w,Sem.run_bind]
theorem gCopy_at (c:Ct) (sl:Value) (F:Nat→Prop) (w:World) (hx:c.v.x < 18446744073709551616) (hm:c.t.size≤1048576) (hok:c.t.ok) (hin:NdIn w F sl c.t) :
  Calls Tryz.prog 61 #[c.val sl] w fun e w'=>∃ sl' fp,e=.returned ((cpC c).val sl')∧Own w' w.heap.size sl' (cpC c).t fp∧Below w.heap.size w w':=by
 have H1:Hid (∀ w,Calls Tryz.prog 113 #[.float .f64 c.v.x] w fun e w'=>e=.returned (.agg #[.int .i64 1,.float .f64 (Go.Proofs.YtnceajanlnnfoaaGreatDoor.one c.v.x),.string ⟨#[]⟩,.bool false,.int .i64 0])∧Gr w w'):=ofNumber_at c.v.x hx
 have H2:Hid (∀ wq,Below w.heap.size w wq→Calls Tryz.prog 114 #[c.t.hd.val sl] wq fun e w'=>∃ sl' fp,e=.returned ((cpy c.t).hd.val sl')∧Own w' wq.heap.size sl' (cpy c.t) fp∧Below wq.heap.size wq w'):=
  fun wq hq=>copy_at c.t sl F wq hm hok (hin.mono fun b hb hlt=>⟨hq.block b hlt,hb⟩)
 obtain ⟨k,⟨vk,vx,vs,vb,vf⟩,t⟩:=c
 unfold cpC
 simp only at *
 generalize Go.Proofs.YtnceajanlnnfoaaGreatDoor.one vx=y at *
 generalize cpy t=u at *
 clear hin hok hx hm
 go_enter Tryz.func61,Tryz.ntmps61
 go_wp2_with fail
 refine (H1.out _).mono ?_
 rintro e w1 ⟨rfl,hg1⟩
 have B0:Hid (w1.heap[w.heap.size]? = some (.cells #[.int .i64 k,.int .i64 vk,.float .f64 vx,.string vs,.bool vb,.int .i64 vf,.int .i64 t.hd.k,.int .i64 t.hd.o,.float .f64 t.hd.x,.string t.hd.s,.bool t.hd.b,.int .i64 t.hd.f,.int .i64 t.hd.c1,.int .i64 t.hd.r1,.bool t.hd.p1,.bool t.hd.q1,.int .i64 t.hd.c2,.int .i64 t.hd.r2,.bool t.hd.p2,.bool t.hd.q2,sl] 66 (0,0))):=by
  show _=_
  rw [hg1.ext.block _ (by simp [World.size_alloc] <;> omega),heap_alloc2_old]
 have B1:Hid (w1.heap[w.heap.size+1]? = some (.cells #[.int .i64 0,.int .i64 0,.float .f64 0,.string ⟨#[]⟩,.bool false,.int .i64 0,.int .i64 0,.int .i64 0,.float .f64 0,.string ⟨#[]⟩,.bool false,.int .i64 0,.int .i64 0,.int .i64 0,.bool false,.bool false,.int .i64 0,.int .i64 0,.bool false,.bool false,.slice none 0 0] 66 (0,0))):=by
  show _=_
  rw [hg1.ext.block _ (by simp [World.size_alloc]),heap_alloc2_new]
 have GW:Hid (Below w.heap.size w w1):=(((Below.refl _ _).alloc (Nat.le_refl _) _).alloc (by simp [World.size_alloc]) _).trans ((gr_below hg1).mono (by simp [World.size_alloc];omega))
 clear hg1 H1
 have D0:Hid ((w1.setCell ⟨w.heap.size,2,none⟩ (.float .f64 y)).heap[w.heap.size]? = some (.cells #[.int .i64 k,.int .i64 vk,.float .f64 y,.string vs,.bool vb,.int .i64 vf,.int .i64 t.hd.k,.int .i64 t.hd.o,.float .f64 t.hd.x,.string t.hd.s,.bool t.hd.b,.int .i64 t.hd.f,.int .i64 t.hd.c1,.int .i64 t.hd.r1,.bool t.hd.p1,.bool t.hd.q1,.int .i64 t.hd.c2,.int .i64 t.hd.r2,.bool t.hd.p2,.bool t.hd.q2,sl] 66 (0,0))):=by
  show _=_
  rw [heap_setCell_same w1 _ 2 _ _ _ B0.out]
  rfl
 have D1:Hid ((w1.setCell ⟨w.heap.size,2,none⟩ (.float .f64 y)).heap[w.heap.size+1]? = some (.cells #[.int .i64 0,.int .i64 0,.float .f64 0,.string ⟨#[]⟩,.bool false,.int .i64 0,.int .i64 0,.int .i64 0,.float .f64 0,.string ⟨#[]⟩,.bool false,.int .i64 0,.int .i64 0,.int .i64 0,.bool false,.bool false,.int .i64 0,.int .i64 0,.bool false,.bool false,.slice none 0 0] 66 (0,0))):=(heap_setCell_other w1 _ _ _ (by simp)).trans B1.out
 have GW1:Hid (Below w.heap.size w (w1.setCell ⟨w.heap.size,2,none⟩ (.float .f64 y))):=GW.out.setCell (Nat.le_refl _) _
 have c2:w1.cell? ⟨w.heap.size,2,none⟩=some (.float .f64 vx):=cell_of_row w1 _ 2 _ _ _ B0.out
 have f2:w1.frozen? ⟨w.heap.size,2,none⟩=false:=frozen_of_row w1 _ 2 _ _ B0.out
 have RF:Hid ((w1.setCell ⟨w.heap.size,2,none⟩ (.float .f64 y)).rangeAt w.heap.size 6 (t.hd.cells sl)):=rangeAt_mid (pre:=[.int .i64 k,.int .i64 vk,.float .f64 y,.string vs,.bool vb,.int .i64 vf]) (l:=t.hd.cells sl) (post:=[]) D0.out
 clear B0 B1 GW
 go_wp2_with (refine wpList_load_mid rfl 64 (.tmp 10) rfl w.heap.size 6 rfl (t.hd.cells sl) _ RF.out Tryz.underlying64 rfl infoNode ?_)
 refine (H2.out _ GW1.out).mono ?_
 rintro e w2 ⟨sl',fp,rfl,hown,hbw⟩
 have hsz:w.heap.size+1 < (w1.setCell ⟨w.heap.size,2,none⟩ (.float .f64 y)).heap.size:=(Array.getElem?_eq_some_iff.1 D1.out).1
 have E0:Hid (w2.heap[w.heap.size]? = some (.cells #[.int .i64 k,.int .i64 vk,.float .f64 y,.string vs,.bool vb,.int .i64 vf,.int .i64 t.hd.k,.int .i64 t.hd.o,.float .f64 t.hd.x,.string t.hd.s,.bool t.hd.b,.int .i64 t.hd.f,.int .i64 t.hd.c1,.int .i64 t.hd.r1,.bool t.hd.p1,.bool t.hd.q1,.int .i64 t.hd.c2,.int .i64 t.hd.r2,.bool t.hd.p2,.bool t.hd.q2,sl] 66 (0,0))):=(hbw.block _ (by omega)).trans D0.out
 have E1:Hid (w2.heap[w.heap.size+1]? = some (.cells #[.int .i64 0,.int .i64 0,.float .f64 0,.string ⟨#[]⟩,.bool false,.int .i64 0,.int .i64 0,.int .i64 0,.float .f64 0,.string ⟨#[]⟩,.bool false,.int .i64 0,.int .i64 0,.int .i64 0,.bool false,.bool false,.int .i64 0,.int .i64 0,.bool false,.bool false,.slice none 0 0] 66 (0,0))):=(hbw.block _ hsz).trans D1.out
 have O1:Hid (sl'.oneCell'=true):=hown.own.one
 have F0:Hid ((w2.setCells w.heap.size 6 (u.hd.cells sl')).heap[w.heap.size]? = some (.cells #[.int .i64 k,.int .i64 vk,.float .f64 y,.string vs,.bool vb,.int .i64 vf,.int .i64 u.hd.k,.int .i64 u.hd.o,.float .f64 u.hd.x,.string u.hd.s,.bool u.hd.b,.int .i64 u.hd.f,.int .i64 u.hd.c1,.int .i64 u.hd.r1,.bool u.hd.p1,.bool u.hd.q1,.int .i64 u.hd.c2,.int .i64 u.hd.r2,.bool u.hd.p2,.bool u.hd.q2,sl'] 66 (0,0))):=heap_setCells_mid (pre:=[.int .i64 k,.int .i64 vk,.float .f64 y,.string vs,.bool vb,.int .i64 vf]) (old:=t.hd.cells sl) (new:=u.hd.cells sl') (post:=[]) rfl E0.out
 have F1:Hid ((w2.setCells w.heap.size 6 (u.hd.cells sl')).heap[w.heap.size+1]? = some (.cells #[.int .i64 0,.int .i64 0,.float .f64 0,.string ⟨#[]⟩,.bool false,.int .i64 0,.int .i64 0,.int .i64 0,.float .f64 0,.string ⟨#[]⟩,.bool false,.int .i64 0,.int .i64 0,.int .i64 0,.bool false,.bool false,.int .i64 0,.int .i64 0,.bool false,.bool false,.slice none 0 0] 66 (0,0))):=(heap_setCells_ne (by omega) _ _ _).trans E1.out
 have T0:Hid (w2.there w.heap.size 6 15):=there_of_block E0.out _ _ (by simp)
 obtain ⟨W3,hW3⟩:∃ W3,w2.setCells w.heap.size 6 (u.hd.cells sl')=W3:=⟨_,rfl⟩
 have HW3:Hid (w2.setCells w.heap.size 6 (u.hd.cells sl')=W3):=hW3
 rw [hW3] at F0 F1
 have RC:Hid (W3.rangeAt w.heap.size 0 [.int .i64 k,.int .i64 vk,.float .f64 y,.string vs,.bool vb,.int .i64 vf,.int .i64 u.hd.k,.int .i64 u.hd.o,.float .f64 u.hd.x,.string u.hd.s,.bool u.hd.b,.int .i64 u.hd.f,.int .i64 u.hd.c1,.int .i64 u.hd.r1,.bool u.hd.p1,.bool u.hd.q1,.int .i64 u.hd.c2,.int .i64 u.hd.r2,.bool u.hd.p2,.bool u.hd.q2,sl']):=rangeAt_mid (pre:=[]) (post:=[]) F0.out
 have T1:Hid (W3.there (w.heap.size+1) 0 21):=there_of_block F1.out _ _ (by simp)
 have L1:Hid ((W3.setCells (w.heap.size+1) 0 [.int .i64 k,.int .i64 vk,.float .f64 y,.string vs,.bool vb,.int .i64 vf,.int .i64 u.hd.k,.int .i64 u.hd.o,.float .f64 u.hd.x,.string u.hd.s,.bool u.hd.b,.int .i64 u.hd.f,.int .i64 u.hd.c1,.int .i64 u.hd.r1,.bool u.hd.p1,.bool u.hd.q1,.int .i64 u.hd.c2,.int .i64 u.hd.r2,.bool u.hd.p2,.bool u.hd.q2,sl']).heap[w.heap.size+1]? = some (.cells #[.int .i64 k,.int .i64 vk,.float .f64 y,.string vs,.bool vb,.int .i64 vf,.int .i64 u.hd.k,.int .i64 u.hd.o,.float .f64 u.hd.x,.string u.hd.s,.bool u.hd.b,.int .i64 u.hd.f,.int .i64 u.hd.c1,.int .i64 u.hd.r1,.bool u.hd.p1,.bool u.hd.q1,.int .i64 u.hd.c2,.int .i64 u.hd.r2,.bool u.hd.p2,.bool u.hd.q2,sl'] 66 (0,0))):=heap_setCells_whole (cs:=#[.int .i64 k,.int .i64 vk,.float .f64 y,.string vs,.bool vb,.int .i64 vf,.int .i64 u.hd.k,.int .i64 u.hd.o,.float .f64 u.hd.x,.string u.hd.s,.bool u.hd.b,.int .i64 u.hd.f,.int .i64 u.hd.c1,.int .i64 u.hd.r1,.bool u.hd.p1,.bool u.hd.q1,.int .i64 u.hd.c2,.int .i64 u.hd.r2,.bool u.hd.p2,.bool u.hd.q2,sl']) F1.out (by simp)
 have OW:Hid (Own (W3.setCells (w.heap.size+1) 0 [.int .i64 k,.int .i64 vk,.float .f64 y,.string vs,.bool vb,.int .i64 vf,.int .i64 u.hd.k,.int .i64 u.hd.o,.float .f64 u.hd.x,.string u.hd.s,.bool u.hd.b,.int .i64 u.hd.f,.int .i64 u.hd.c1,.int .i64 u.hd.r1,.bool u.hd.p1,.bool u.hd.q1,.int .i64 u.hd.c2,.int .i64 u.hd.r2,.bool u.hd.p2,.bool u.hd.q2,sl']) w.heap.size sl' u fp):=by
  refine ⟨hown.own.mono (fun b hb=>?_),hown.nodup,fun b hb=>?_⟩
  ·have:=(hown.new b hb).1
   rw [heap_setCells_ne (by omega),← hW3,heap_setCells_ne (by omega)]
  ·rw [size_setCells,← hW3,size_setCells]
   exact ⟨by have:=(hown.new b hb).1;omega,(hown.new b hb).2⟩
 have BW:Hid (Below w.heap.size w (W3.setCells (w.heap.size+1) 0 [.int .i64 k,.int .i64 vk,.float .f64 y,.string vs,.bool vb,.int .i64 vf,.int .i64 u.hd.k,.int .i64 u.hd.o,.float .f64 u.hd.x,.string u.hd.s,.bool u.hd.b,.int .i64 u.hd.f,.int .i64 u.hd.c1,.int .i64 u.hd.r1,.bool u.hd.p1,.bool u.hd.q1,.int .i64 u.hd.c2,.int .i64 u.hd.r2,.bool u.hd.p2,.bool u.hd.q2,sl'])):=
  setCells_below (hW3 ▸ setCells_below (GW1.out.trans (hbw.mono (by omega))) (Nat.le_refl _) _ _) (Nat.le_succ _) _ _
 clear hW3 hown hbw H2 D0 D1 GW1 c2 f2 RF E0 E1 F0 F1 hsz
 go_wp2_with (first|(refine wpList_store_to rfl 64 (.tmp 13) (.tmp 12) rfl w.heap.size 6 _ rfl rfl T0.out infoNode (u.hd.one O1.out) W3 HW3.out ?_)|(refine wpList_load_mid rfl 66 (.tmp 1) rfl w.heap.size 0 rfl [.int .i64 k,.int .i64 vk,.float .f64 y,.string vs,.bool vb,.int .i64 vf,.int .i64 u.hd.k,.int .i64 u.hd.o,.float .f64 u.hd.x,.string u.hd.s,.bool u.hd.b,.int .i64 u.hd.f,.int .i64 u.hd.c1,.int .i64 u.hd.r1,.bool u.hd.p1,.bool u.hd.q1,.int .i64 u.hd.c2,.int .i64 u.hd.r2,.bool u.hd.p2,.bool u.hd.q2,sl'] _ RC.out Tryz.underlying66 rfl infoContent ?_)|(refine wpList_store_mid rfl 66 (.tmp 2) (.tmp 14) rfl (w.heap.size+1) 0 _ rfl rfl T1.out infoContent (Ct.one ⟨k,⟨vk,y,vs,vb,vf⟩,u⟩ O1.out) ?_))
 refine bodyPost_ret (results_cell_row rfl _ _ (w.heap.size+1) 66 _ (0,0) _ rfl L1.out Tryz.underlying66 rfl infoContent) rfl ?_
 exact ⟨_,_,rfl,OW.out,BW.out⟩
theorem exec_node_at {o:Oper} {a:Act} {x:Operand} {b p:Nat} {w:World} (cs:List Value) (ho:o.op=.load 64 x) (hx:a.eval x=.pointer (some ⟨b,p,none⟩)) (hc:w.rangeAt b p cs) (hcs:cs.length=15):(execOp a.eval o).run Tryz.prog w=.ok (.value (.agg cs.toArray)) w:=by
 unfold execOp
 simp only [ho,hx,Instr.loadAt,Instr.sureAddr,Sem.run_bind,Sem.run_pure,Result.andThen_ok,run_loadVar_mid w b p 64 cs _ hc Tryz.underlying64 rfl (by rw [hcs];exact infoNode)]
theorem infoNodeI:∃ i,Tryz.prog.info? 64=some i∧i.zero=some (.agg #[.int .i64 0,.int .i64 0,.float .f64 0,.string ⟨#[]⟩,.bool false,.int .i64 0,.int .i64 0,.int .i64 0,.bool false,.bool false,.int .i64 0,.int .i64 0,.bool false,.bool false,.slice none 0 0])∧i.size=15∧i.bytes=128:=by
 have:=infoNodeZ
 cases h:Tryz.prog.info? 64 with
 | none=>rw [h] at this;cases this
 | some i=>
  rw [h] at this
  have:=Option.some.inj this
  simp only [Prod.mk.injEq] at this
  exact ⟨i,rfl,this.1,this.2.1,this.2.2⟩
structure OwAt (w wr:World) (ps zs:List Value) (h:Hd) (us:List Nd) (v:Value) (fp:List Nat):Prop where
 bel:Below w.heap.size w wr
 b1:Blk wr w.heap.size ps 64
 b2:Blk wr (w.heap.size+1) zs 64
 b3:Blk wr (w.heap.size+2) (h.cells v) 64
 own:Own wr (w.heap.size+3) v (.mk h us) fp
theorem OwAt.start {w:World} (ps zs:List Value) (h:Hd):OwAt w (((w.alloc (.cells ps.toArray 64)).alloc (.cells zs.toArray 64)).alloc (.cells (h.cells (.slice none 0 0)).toArray 64)) ps zs h [] (.slice none 0 0) []:=by
 refine ⟨?_,?_,?_,?_,?_,?_,?_⟩
 ·exact (((Below.refl _ _).alloc (Nat.le_refl _) _).alloc (by simp [World.size_alloc]) _).alloc (by simp [World.size_alloc];omega) _
 ·exact ((Blk.new w ps _).alloc _).alloc _
 ·have:=Blk.new (w.alloc (.cells ps.toArray 64)) zs 64
  rw [World.size_alloc] at this
  exact this.alloc _
 ·have:=Blk.new ((w.alloc (.cells ps.toArray 64)).alloc (.cells zs.toArray 64)) (h.cells (.slice none 0 0)) 64
  rw [World.size_alloc,World.size_alloc] at this
  exact this
 ·rw [NdOwn];exact .inl ⟨rfl,rfl,rfl⟩
 ·exact List.nodup_nil
 ·intro b hb;simp at hb
theorem OwAt.lt {w wr:World} {ps zs:List Value} {h:Hd} {us:List Nd} {v:Value} {fp:List Nat} (q:OwAt w wr ps zs h us v fp):w.heap.size+3≤wr.heap.size:=q.b3.lt
theorem OwAt.step {w wr w2 w4:World} {ps zs:List Value} {h:Hd} {us:List Nd} {v:Value} {fp:List Nat} (q:OwAt w wr ps zs h us v fp) (hg:Below wr.heap.size wr w2) {B:Nat} (hB:wr.heap.size≤B) {sl:Value} {u:Nd} {f:List Nat} (hu:Own w2 B sl u f) {xs:List Value}
  (hx:(w2.alloc (.cells (u.hd.cells sl).toArray 64)).ownsRow (w.heap.size+3) 64 15 v us.length xs) {g c:Nat}
  (ho:w4.ownsRow (w.heap.size+3) 64 15 (.slice (some ⟨g,0,none⟩) (us.length+1) c) (us.length+1) (xs ++ u.hd.cells sl)) (hgr:(w2.alloc (.cells (u.hd.cells sl).toArray 64)).grownBy w4 v.ownBlock) (ht:v.ownBlock=some g∨(w2.alloc (.cells (u.hd.cells sl).toArray 64)).heap.size≤g) :
  ∃ fp',OwAt w (w4.setCell ⟨w.heap.size+2,14,none⟩ (.slice (some ⟨g,0,none⟩) (us.length+1) c)) ps zs h (us ++ [u]) (.slice (some ⟨g,0,none⟩) (us.length+1) c) fp':=by
 have hlt:=q.lt
 have hg3:Below wr.heap.size wr (w2.alloc (.cells (u.hd.cells sl).toArray 64)):=hg.alloc hg.size _
 have own3:Own (w2.alloc (.cells (u.hd.cells sl).toArray 64)) (w.heap.size+3) v (.mk h us) fp:=q.own.below hg3
 have hu3:Own (w2.alloc (.cells (u.hd.cells sl).toArray 64)) (w.heap.size+3) sl u f:=(hu.below ((Below.refl _ _).alloc (Nat.le_refl _) _)).le (by omega)
 have hd:∀ b∈f,b ∉ fp:=fun b hb hb'=>by
  have:=(hu.new b hb).1
  have:=(q.own.new b hb').2
  omega
 obtain ⟨fp',ow4⟩:=own3.grow hx hu3 hd ho hgr ht h
 have hrow:∀ i,v.ownBlock=some i→w.heap.size+3≤i:=fun i hi=>(hx.lt i hi).1
 have hb4:∀ i,i < w.heap.size+3→w4.heap[i]? = wr.heap[i]?:=fun i hi=>by
  rw [hgr.block i (by have:=hg3.size;omega) (fun e=>by have:=hrow i e.symm;omega)]
  exact hg3.block i (by omega)
 have ne:∀ i,i≠w.heap.size+2→(w4.setCell ⟨w.heap.size+2,14,none⟩ (.slice (some ⟨g,0,none⟩) (us.length+1) c)).heap[i]? = w4.heap[i]?:=fun i hi=>heap_setCell_other w4 _ i _ hi
 have sz:(w4.setCell ⟨w.heap.size+2,14,none⟩ (.slice (some ⟨g,0,none⟩) (us.length+1) c)).heap.size=w4.heap.size:=by
  show (w4.heap.modify _ _).size=_
  simp
 have b3':Blk w4 (w.heap.size+2) (h.cells v) 64:=(hb4 _ (by omega)).trans q.b3
 refine ⟨fp',⟨?_,?_,?_,?_,?_⟩⟩
 ·refine ⟨?_,?_,?_,?_,?_⟩
  ·exact hgr.os.trans (hg3.os.trans q.bel.os)
  ·exact hgr.tape.trans (hg3.tape.trans q.bel.tape)
  ·exact hgr.output.trans (hg3.output.trans q.bel.output)
  ·rw [sz];have:=hgr.size;have:=hg3.size;omega
  ·intro i hi
   rw [ne i (by omega),hb4 i (by omega)]
   exact q.bel.block i hi
 ·exact (ne _ (by omega)).trans ((hb4 _ (by omega)).trans q.b1)
 ·exact (ne _ (by omega)).trans ((hb4 _ (by omega)).trans q.b2)
 ·exact b3'.set 14 _
 ·refine ⟨ow4.own.mono (fun b hb=>ne b (by have:=(ow4.new b hb).1;omega)),ow4.nodup,fun b hb=>?_⟩
  rw [sz];exact ow4.new b hb
theorem ownsRow_below {w w':World} {B:Nat} {e:TypeId} {k:Nat} {v:Value} {n:Nat} {xs:List Value} (h:w.ownsRow B e k v n xs) (g:Below w.heap.size w w'):w'.ownsRow B e k v n xs:=
 h.kept ⟨g.os,g.tape,g.output,g.size,fun i hi _=>g.block i hi⟩ (row:=none) (by cases hv:v.ownBlock <;> simp)
theorem hd_ones (h:Hd) {sl:Value} (hs:sl.oneCell'=true):∀ u∈h.cells sl,u.oneCell'=true:=by
 intro u hu
 have:=h.one hs
 rw [Array.all_eq_true'] at this
 exact this u (by simpa using hu)
theorem rangeAt_alloc_two (w:World) (cs:List Value) (t:TypeId) (o:Obj):((w.alloc (.cells cs.toArray t)).alloc o).rangeAt w.heap.size 0 cs:=by
 have:=((Blk.new w cs t).alloc o)
 intro j v hj
 rw [Nat.zero_add]
 exact this.cell hj
theorem ownNode_any (N:Nat):∀ (t:Nd) (sl:Value) (F:Nat→Prop) (w:World),t.size≤N→t.size≤1048576→NdIn w F sl t →
  Calls Tryz.prog 167 #[t.hd.val sl] w fun e w'=>∃ sl' fp,e=.returned (t.hd.val sl')∧Own w' w.heap.size sl' t fp∧Below w.heap.size w w':=by
 induction N with
 | zero=>intro t sl F w h;have:=size_pos t;omega
 | succ N ih=>
  intro t sl F w hN hm hin
  obtain ⟨h,ts⟩:=t
  rw [NdIn] at hin
  obtain ⟨a,c,rfl,_,_,h4⟩:=hin
  have hsz:Hid ((Nd.mk h ts).size=1+sizeL ts):=by show _=_;rw [Nd.size]
  have HN:Hid ((Nd.mk h ts).size≤N+1):=hN
  have HM:Hid ((Nd.mk h ts).size≤1048576):=hm
  have IH:Hid (∀ (t:Nd) (sl:Value) (F:Nat→Prop) (w:World),t.size≤N→t.size≤1048576→NdIn w F sl t →
   Calls Tryz.prog 167 #[t.hd.val sl] w fun e w'=>∃ sl' fp,e=.returned (t.hd.val sl')∧Own w' w.heap.size sl' t fp∧Below w.heap.size w w'):=ih
  have H4:Hid ((ts=[]∧(c=0∨a≠none))∨∃ b o,a=some ⟨b,o,none⟩∧F b∧NdsIn w F b o ts):=h4
  have hln:=length_sizeL ts
  have HLM:Hid (ts.length≤1048576):=by show _≤_;have:=hsz.out;omega
  clear ih hN hm h4 hln
  simp only [Nd.hd]
  generalize hn:ts.length=n at *
  have HL:Hid (ts.length=n):=hn
  clear hn
  obtain ⟨W0,hW0⟩:∃ W0,(((w.alloc (.cells (h.cells (.slice a n c)).toArray 64)).alloc (.cells [.int .i64 0,.int .i64 0,.float .f64 0,.string ⟨#[]⟩,.bool false,.int .i64 0,.int .i64 0,.int .i64 0,.bool false,.bool false,.int .i64 0,.int .i64 0,.bool false,.bool false,.slice none 0 0].toArray 64)).alloc (.cells (h.cells (.slice none 0 0)).toArray 64))=W0:=⟨_,rfl⟩
  have OS:=OwAt.start (w:=w) (h.cells (.slice a n c)) [.int .i64 0,.int .i64 0,.float .f64 0,.string ⟨#[]⟩,.bool false,.int .i64 0,.int .i64 0,.int .i64 0,.bool false,.bool false,.int .i64 0,.int .i64 0,.bool false,.bool false,.slice none 0 0] h
  rw [hW0] at OS
  have HOS:Hid (OwAt w W0 (h.cells (.slice a n c)) [.int .i64 0,.int .i64 0,.float .f64 0,.string ⟨#[]⟩,.bool false,.int .i64 0,.int .i64 0,.int .i64 0,.bool false,.bool false,.int .i64 0,.int .i64 0,.bool false,.bool false,.slice none 0 0] h [] (.slice none 0 0) []):=OS
  have RR:Hid (∀ o,((w.alloc (.cells (h.cells (.slice a n c)).toArray 64)).alloc o).rangeAt w.heap.size 0 (h.cells (.slice a n c))):=fun o=>rangeAt_alloc_two w _ _ o
  clear OS
  obtain ⟨k,o',x,s,bb,f,c1,r1,p1,q1,c2,r2,p2,q2⟩:=h
  have HW:Hid ((((w.alloc (.cells #[.int .i64 k,.int .i64 o',.float .f64 x,.string s,.bool bb,.int .i64 f,.int .i64 c1,.int .i64 r1,.bool p1,.bool q1,.int .i64 c2,.int .i64 r2,.bool p2,.bool q2,.slice a n c] 64)).alloc (.cells #[.int .i64 0,.int .i64 0,.float .f64 0,.string ⟨#[]⟩,.bool false,.int .i64 0,.int .i64 0,.int .i64 0,.bool false,.bool false,.int .i64 0,.int .i64 0,.bool false,.bool false,.slice none 0 0] 64)).alloc (.cells #[.int .i64 k,.int .i64 o',.float .f64 x,.string s,.bool bb,.int .i64 f,.int .i64 c1,.int .i64 r1,.bool p1,.bool q1,.int .i64 c2,.int .i64 r2,.bool p2,.bool q2,.slice none 0 0] 64))=W0):=hW0
  clear hW0
  obtain ⟨i0,hi,hz0,hz1,hz2⟩:=infoNodeI
  go_enter Tryz.func167,Tryz.ntmps167
  go_wp2_with (first|(refine wpList_load_mid rfl 64 (.tmp 1) rfl w.heap.size 0 rfl (Hd.cells ⟨k,o',x,s,bb,f,c1,r1,p1,q1,c2,r2,p2,q2⟩ (.slice a n c)) _ (RR.out _) Tryz.underlying64 rfl infoNode ?_)|(refine wpList_store_new rfl 64 (.tmp 3) (.tmp 5) rfl _ _ _ _ _ (by first|rfl|simp) rfl rfl rfl infoNode (Hd.one ⟨k,o',x,s,bb,f,c1,r1,p1,q1,c2,r2,p2,q2⟩ rfl) ?_))
  rw [HW.out]
  clear HW RR
  go_loopw [4] (fun i wr=>∃ (q:Nat) (v:Value) (fp:List Nat),q≤n∧i=.int .i64 q∧OwAt w wr (Hd.cells ⟨k,o',x,s,bb,f,c1,r1,p1,q1,c2,r2,p2,q2⟩ (.slice a n c)) [.int .i64 0,.int .i64 0,.float .f64 0,.string ⟨#[]⟩,.bool false,.int .i64 0,.int .i64 0,.int .i64 0,.bool false,.bool false,.int .i64 0,.int .i64 0,.bool false,.bool false,.slice none 0 0] ⟨k,o',x,s,bb,f,c1,r1,p1,q1,c2,r2,p2,q2⟩ (ts.take q) v fp) (fun i _=>n - (intOf i).toNat)
  case atStart=>exact ⟨0,.slice none 0 0,[],Nat.zero_le _,rfl,by rw [List.take_zero];exact HOS.out⟩
  case round=>
   obtain ⟨q,v,fp,hq,rfl,hat⟩:=hrel
   have AT:Hid (OwAt w wr (Hd.cells ⟨k,o',x,s,bb,f,c1,r1,p1,q1,c2,r2,p2,q2⟩ (.slice a n c)) [.int .i64 0,.int .i64 0,.float .f64 0,.string ⟨#[]⟩,.bool false,.int .i64 0,.int .i64 0,.int .i64 0,.bool false,.bool false,.int .i64 0,.int .i64 0,.bool false,.bool false,.slice none 0 0] ⟨k,o',x,s,bb,f,c1,r1,p1,q1,c2,r2,p2,q2⟩ (ts.take q) v fp):=hat
   have hlt3:=hat.lt
   have x14:wr.cell? ⟨w.heap.size,14,none⟩=some (.slice a n c):=hat.b1.cell rfl
   by_cases hlt:q < n
   ·have hqt:q < ts.length:=by rw [HL.out];exact hlt
    obtain ⟨b,o,rfl,hFb,hns⟩:∃ b o,a=some ⟨b,o,none⟩∧F b∧NdsIn w F b o ts:=by
     rcases H4.out with h|h
     ·rw [h.1] at hqt;simp at hqt
     ·exact h
    obtain ⟨s1,hr,hni⟩:=hns.get q hqt
    obtain ⟨pv,lv,cv,rfl⟩:=ndOwn_slice hat.own.own
    obtain ⟨xs,hxs⟩:=hat.own.row
    have hul:Hid ((ts.take q).length=q):=by show _=_;rw [List.length_take];omega
    have hbw:b < w.heap.size:=rangeAt_lt hr
    have HS:Hid (∀ wq,Below (w.heap.size+3) wr wq→wq.cell? ⟨w.heap.size,14,none⟩=some (.slice (some ⟨b,o,none⟩) n c)∧wq.cell? ⟨w.heap.size+2,14,none⟩=some (.slice pv lv cv)):=fun wq hk=>⟨(hk.cell (by simp)).trans (hat.b1.cell rfl),(hk.cell (by simp)).trans (hat.b3.cell rfl)⟩
    have HR:Hid (∀ wq,Below (w.heap.size+3) wr wq→wq.rangeAt b (o+q * 15) ((ts[q]).hd.cells s1)):=fun wq hk=>rangeAt_block hr ((hk.block b (by omega)).trans (hat.bel.block b hbw))
    have hs1:=size_get ts q hqt
    have hni':∀ wq,Below wr.heap.size wr wq→NdIn wq F s1 ts[q]:=fun wq hk=>hni.mono fun b hb hl=>⟨(hk.block b (by omega)).trans (hat.bel.block b hl),hb⟩
    have HC:Hid (∀ wq,Below wr.heap.size wr wq→Calls Tryz.prog 167 #[(ts[q]).hd.val s1] wq fun e w'=>∃ sl' fp,e=.returned ((ts[q]).hd.val sl')∧Own w' wq.heap.size sl' (ts[q]) fp∧Below wq.heap.size wq w'):=fun wq hq=>IH.out ts[q] s1 F wq (by have:=HN.out;have:=hsz.out;omega) (by have:=HM.out;have:=hsz.out;omega) (hni' wq hq)
    have hu3:Hid (ts.take (q+1)=ts.take q ++ [ts[q]]):=by show _=_;rw [List.take_add_one,List.getElem?_eq_getElem hqt];rfl
    have O1:Hid (s1.oneCell'=true):=hni.one
    clear hs1 hni hni' hr hns
    generalize ts[q]=u at *
    generalize ts.take q=us at *
    have hkb:(q:Int)+1≤9223372036854775807:=by have:=HLM.out;omega
    have hq0:(0:Int)≤(q:Int):=by omega
    have hqn:(q:Int) < (n:Int):=by omega
    have HX3:Hid (∀ w2,Below wr.heap.size wr w2→∀ o,(w2.alloc o).ownsRow (w.heap.size+3) 64 15 (.slice pv lv cv) us.length xs):=fun w2 h2 o=>(ownsRow_below hxs h2).alloc o
    clear hat hxs
    go_wp2_with fail
    refine wp_region_noPanic ?_
    refine wp_region_but (fun w':World=>Below (w.heap.size+3) wr w') 11 (by kernel_rfl) ((Below.refl _ _).drew) (fun hHeld=>?_)
    refine wpBut_takes (i:=0) (v:=?_) (some 14) rfl rfl (by kernel_rfl) (by kernel_rfl) (by kernel_rfl) (by kernel_rfl) (fun _ _ _ h=>h) (Or.inl ⟨by rfl,?_⟩) hHeld ?_
    rotate_left
    ·intro w' hSw;obtain ⟨s0,s1⟩:=HS.out _ hSw;clear hSw;go_simp;try with_reducible rfl
    simp only [Act.put,List.setIfInBounds_toArray,List.set_cons_zero,List.set_cons_succ]
    refine wpBut_takes (i:=1) (v:=?_) (some 15) rfl rfl (by kernel_rfl) (by kernel_rfl) (by kernel_rfl) (by kernel_rfl) (fun _ _ _ h=>h) (Or.inl ⟨by rfl,?_⟩) hHeld ?_
    rotate_left
    ·intro w' hSw;obtain ⟨s0,s1⟩:=HS.out _ hSw;clear hSw;go_simp;try with_reducible rfl
    simp only [Act.put,List.setIfInBounds_toArray,List.set_cons_zero,List.set_cons_succ]
    refine wpBut_takes (i:=2) (v:=?_) (some 16) rfl rfl (by kernel_rfl) (by kernel_rfl) (by kernel_rfl) (by kernel_rfl) (fun _ _ _ h=>h) (Or.inl ⟨by rfl,?_⟩) hHeld ?_
    rotate_left
    ·intro w' hSw;obtain ⟨s0,s1⟩:=HS.out _ hSw;clear hSw;go_simp;try with_reducible rfl
    simp only [Act.put,List.setIfInBounds_toArray,List.set_cons_zero,List.set_cons_succ]
    refine wpBut_takes (i:=3) (v:=?_) (some 17) rfl rfl (by kernel_rfl) (by kernel_rfl) (by kernel_rfl) (by kernel_rfl) (fun _ _ _ h=>h) (Or.inl ⟨by rfl,?_⟩) hHeld ?_
    rotate_left
    ·intro w' hSw;obtain ⟨s0,s1⟩:=HS.out _ hSw;clear hSw;go_simp;try with_reducible rfl
    simp only [Act.put,List.setIfInBounds_toArray,List.set_cons_zero,List.set_cons_succ]
    refine wpBut_takes (i:=4) (v:=?_) (some 18) rfl rfl (by kernel_rfl) (by kernel_rfl) (by kernel_rfl) (by kernel_rfl) (fun _ _ _ h=>h) (Or.inl ⟨by rfl,?_⟩) hHeld ?_
    rotate_left
    ·intro w' hSw;obtain ⟨s0,s1⟩:=HS.out _ hSw;clear hSw;go_simp;try with_reducible rfl
    simp only [Act.put,List.setIfInBounds_toArray,List.set_cons_zero,List.set_cons_succ]
    refine wpBut_takes (i:=5) (v:=?_) (some 19) rfl rfl (by kernel_rfl) (by kernel_rfl) (by kernel_rfl) (by kernel_rfl) (fun _ _ _ h=>h) (Or.inl ⟨by rfl,?_⟩) hHeld ?_
    rotate_left
    ·intro w' hSw;obtain ⟨s0,s1⟩:=HS.out _ hSw;clear hSw;go_simp;try with_reducible rfl
    simp only [Act.put,List.setIfInBounds_toArray,List.set_cons_zero,List.set_cons_succ]
    refine wpBut_takes (i:=6) (v:=u.hd.val s1) (some 20) rfl rfl (by kernel_rfl) (by kernel_rfl) (by kernel_rfl) (by kernel_rfl) (fun _ _ _ h=>h) (Or.inl ⟨by rfl,fun w' hSw=>exec_node_at (u.hd.cells s1) rfl rfl (HR.out w' hSw) rfl⟩) hHeld ?_
    simp only [Act.put,List.setIfInBounds_toArray,List.set_cons_zero,List.set_cons_succ]
    refine wpBut_step (i:=7) (by kernel_rfl) rfl rfl (fun K hK=>?_)
    go_simp
    refine (HC.out _ ((Below.refl _ _).drew)).mono ?_
    rintro e w2 ⟨su,fu,rfl,hown,hbl⟩
    have hb2:Below wr.heap.size wr w2:=((Below.refl wr.heap.size wr).drew).trans hbl
    have HB2:Hid (Below wr.heap.size wr w2):=hb2
    have HU:Hid (Own w2 wr.heap.size su u fu):=hown
    refine hK.out _ _ (fun _=>hb2.mono hlt3) (fun _=>?_)
    clear hK K hHeld hown hbl HC HS HR x14
    refine wpBut_step (i:=8) (by kernel_rfl) rfl rfl (fun K hK=>?_)
    go_simp
    refine hK.out _ _ (fun _=>(hb2.alloc hb2.size _).mono hlt3) (fun _=>?_)
    clear hK K
    refine wpBut_step (i:=9) (by kernel_rfl) rfl rfl (fun K hK=>?_)
    refine wp_append_tell _ (.tmp 15) (.tmp 22) 62 rfl (w.heap.size+3) 64 i0 _ 15 128 Tryz.underlying62 hi hz0 hz1 hz2 rfl (by decide) (.slice pv lv cv) us.length xs rfl (HX3.out w2 HB2.out _) ⟨w2.heap.size,0,none⟩ 1 1 (u.hd.cells su) rfl rfl ?c1 ?c2 (by decide) ?c3 ?c4 ?c5 ?_
    case c1=>
     intro j u' hj
     rw [addr_at,Nat.zero_add]
     exact (Blk.new w2 (u.hd.cells su) 64).cell hj
    case c2=>exact hd_ones u.hd HU.out.own.one
    case c3=>rw [hul.out];unfold maxLen;omega
    case c4=>rw [hul.out];have:=HLM.out;omega
    case c5=>have:=hb2.size;simp [World.size_alloc];omega
    intro g c' w4 ho hgr ht
    obtain ⟨fp',hat5⟩:=AT.out.step HB2.out (Nat.le_refl _) HU.out (HX3.out w2 HB2.out _) ho hgr ht
    have h4b:Below (w.heap.size+3) wr w4:=by
     refine ⟨hgr.os.trans hb2.os,hgr.tape.trans hb2.tape,hgr.output.trans hb2.output,?_,fun i hi=>?_⟩
     ·have h1:=hgr.size;have h2:=hb2.size;rw [World.size_alloc] at h1;omega
     ·rw [hgr.block i (by rw [World.size_alloc];have:=hb2.size;omega) (fun e=>by have:=((HX3.out w2 HB2.out (.cells #[] 0)).lt i e.symm).1;omega),Below.heap_alloc _ _ _ (by have:=hb2.size;omega)]
      exact hb2.block i (by omega)
    have A5:Hid (OwAt w _ _ _ _ _ _ fp'):=hat5
    refine hK.out _ _ (fun _=>h4b) (fun hHeld=>?_)
    have f3:w4.frozen? ⟨w.heap.size+2,14,none⟩=false:=by
     have:Blk w4 (w.heap.size+2) _ 64:=(h4b.block _ (by omega)).trans AT.out.b3
     exact this.froz _
    have c3:w4.cell? ⟨w.heap.size+2,14,none⟩=some (.slice pv lv cv):=by
     have:Blk w4 (w.heap.size+2) _ 64:=(h4b.block _ (by omega)).trans AT.out.b3
     exact this.cell rfl
    clear hK K hat5 ho hgr ht h4b hb2
    simp only [Act.put,List.setIfInBounds_toArray]
    refine wpBut_step (i:=10) (by kernel_rfl) rfl rfl (fun K hK=>?_)
    go_simp
    refine hK.out _ _ (fun _=>hHeld (by decide)) (fun _=>?_)
    clear hK K
    refine wpBut_step (i:=11) (by kernel_rfl) rfl rfl (fun K hK=>?_)
    go_simp
    refine hK.out _ _ (fun h=>absurd rfl h) (fun _=>?_)
    clear hK K hHeld c3 f3
    refine wpBut_done (by kernel_rfl) ?_
    refine NoPanic.normal ?_
    go_wp2_with fail
    go_roundw
    case rel=>exact ⟨q+1,_,fp',by omega,by go_num,by rw [hu3.out];exact A5.out⟩
    case measure=>simp only [intOf];omega
   ·have hqe:q=n:=by omega
    subst hqe
    have hqn:¬ ((q:Int) < (q:Int)):=by omega
    have hall:ts.take q=ts:=by rw [List.take_of_length_le (by rw [HL.out];exact Nat.le_refl _)]
    have R3:Hid (wr.rangeAt (w.heap.size+2) 0 (Hd.cells ⟨k,o',x,s,bb,f,c1,r1,p1,q1,c2,r2,p2,q2⟩ v)):=fun j u hj=>by rw [Nat.zero_add];exact hat.b3.cell hj
    have T1:Hid (wr.there (w.heap.size+1) 0 15):=there_of_block hat.b2 _ _ (by simp)
    obtain ⟨W5,hW5⟩:∃ W5,wr.setCells (w.heap.size+1) 0 (Hd.cells ⟨k,o',x,s,bb,f,c1,r1,p1,q1,c2,r2,p2,q2⟩ v)=W5:=⟨_,rfl⟩
    have HW5:Hid (wr.setCells (w.heap.size+1) 0 (Hd.cells ⟨k,o',x,s,bb,f,c1,r1,p1,q1,c2,r2,p2,q2⟩ v)=W5):=hW5
    have E1:Hid (W5.heap[w.heap.size+1]? = some (.cells (Hd.cells ⟨k,o',x,s,bb,f,c1,r1,p1,q1,c2,r2,p2,q2⟩ v).toArray 64 (0,0))):=by
     show _=_
     rw [← hW5]
     exact heap_setCells_whole (cs:=(Hd.cells ⟨k,o',x,s,bb,f,c1,r1,p1,q1,c2,r2,p2,q2⟩ v).toArray) hat.b2 (by simp)
    have OW:Hid (Own W5 w.heap.size v (.mk ⟨k,o',x,s,bb,f,c1,r1,p1,q1,c2,r2,p2,q2⟩ (ts)) fp):=by
     show Own _ _ _ _ _
     rw [← hall,← hW5]
     refine ⟨hat.own.own.mono (fun b hb=>heap_setCells_ne (by have:=(hat.own.new b hb).1;omega) _ _ _),hat.own.nodup,fun b hb=>?_⟩
     rw [size_setCells]
     exact ⟨by have:=(hat.own.new b hb).1;omega,(hat.own.new b hb).2⟩
    have BW:Hid (Below w.heap.size w W5):=by
     show Below _ _ _
     rw [← hW5]
     exact setCells_below hat.bel (Nat.le_succ _) _ _
    have O1:Hid (v.oneCell'=true):=hat.own.own.one
    clear hat AT IH H4 HOS hW5 hall
    go_wp2_with (first|(refine wpList_load_mid rfl 64 (.tmp 3) rfl (w.heap.size+2) 0 rfl (Hd.cells ⟨k,o',x,s,bb,f,c1,r1,p1,q1,c2,r2,p2,q2⟩ v) _ R3.out Tryz.underlying64 rfl infoNode ?_)|(refine wpList_store_to rfl 64 (.tmp 2) (.tmp 25) rfl (w.heap.size+1) 0 _ rfl rfl T1.out infoNode (Hd.one ⟨k,o',x,s,bb,f,c1,r1,p1,q1,c2,r2,p2,q2⟩ O1.out) W5 HW5.out ?_))
    refine bodyPost_ret (results_cell_row rfl _ _ (w.heap.size+1) 64 _ (0,0) _ rfl E1.out Tryz.underlying64 rfl infoNode) rfl ?_
    exact ⟨_,rfl,⟨_,OW.out⟩,BW.out⟩
end Go.Proofs.YtnceajanlnnfoaaGreatDoor
