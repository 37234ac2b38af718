/- value's isFault, bare, Valid, OfNumber; grid's isZeroValue. value's Valid and OfNumber; grid's isZeroValue. grid's isZeroNode and Valid. grid's Copy. ownNode (quadrilleref17): a tree in memory of its own, as it was. over (quadrillelaw17): an owner writes over a tree of its own; nothing else turns. -/
import Derived.Test.YtlppcfeakakpfaaGreatDoorQpXs
set_option maxHeartbeats 8000000
set_option maxRecDepth 20000
namespace Go.Proofs.YtlppcfeakakpfaaGreatDoor
open Go.RowKit
def isF (f:Int):Bool:=decide (1≤f) && decide (f≤5)
theorem isFault_at (f:Int) (w:World):Calls Tryz.prog 78 #[.int .i64 f] w fun e w'=>e=.returned (.bool (isF f))∧w'=w:=by
 have hV:Hid (isF f=(decide (1≤f) && decide (f≤5))):=rfl
 generalize isF f=V at *
 go_enter Tryz.func78,Tryz.ntmps78
 go_wp2
 all_goals
  go_ret
  refine ⟨rBool ?_,rfl⟩
  rw [hV.out]
  clear hV
  (try simp_all) <;> (try omega)
def bareV (v:Vl):Bool:=(v.k == 1 || (v.x:Int) == 0) && (v.k == 2 || decide (v.s.toList=[])) && (v.k == 3 || !v.b) && (v.k == 4 || v.f == 0)
theorem bare_at (v:Vl) (w:World):Calls Tryz.prog 76 #[v.val] w fun e w'=>e=.returned (.bool (bareV v))∧Gr w w':=by
 have G0:Hid (∀ a t,Gr w (w.alloc (.cells a t))):=fun a t=>(Gr.refl w).alloc _ _
 have hV:Hid (bareV v=((v.k == 1 || (v.x:Int) == 0) && (v.k == 2 || decide (v.s.toList=[])) && (v.k == 3 || !v.b) && (v.k == 4 || v.f == 0))):=rfl
 generalize bareV v=V at *
 obtain ⟨k,x,s,b,f⟩:=v
 simp only at *
 go_enter Tryz.func76,Tryz.ntmps76
 go_wp2
 all_goals
  go_ret
  refine ⟨rBool ?_,G0.out _ _⟩
  rw [hV.out]
  clear hV G0
  simp_all
def validV (v:Vl) (u:Bool):Bool:=bareV v && (v.k == 0 || v.k == 1 || v.k == 3 || (v.k == 2 && decide (v.s.size≤1024) && u) || (v.k == 4 && isF v.f))
theorem valid_at (v:Vl) (u:Bool) (w:World)
  (U:Hid (v.k=2→∀ wq,Gr w wq→Calls Tryz.prog 77 #[.string v.s] wq fun e w'=>e=.returned (.bool u)∧Gr wq w')) :
  Calls Tryz.prog 56 #[v.val] w fun e w'=>e=.returned (.bool (validV v u))∧Gr w w':=by
 have H1:Hid (∀ w,Calls Tryz.prog 76 #[v.val] w fun e w'=>e=.returned (.bool (bareV v))∧Gr w w'):=bare_at v
 have H2:Hid (∀ w,Calls Tryz.prog 78 #[.int .i64 v.f] w fun e w'=>e=.returned (.bool (isF v.f))∧w'=w):=isFault_at v.f
 have hV:Hid (validV v u=(bareV v && (v.k == 0 || v.k == 1 || v.k == 3 || (v.k == 2 && decide (v.s.size≤1024) && u) || (v.k == 4 && isF v.f)))):=rfl
 generalize validV v u=V at *
 generalize bareV v=B at *
 generalize isF v.f=I at *
 obtain ⟨k,x,s,b,f⟩:=v
 simp only at *
 go_enter Tryz.func56,Tryz.ntmps56
 go_wp2_with fail
 refine (H1.out _).mono ?_
 rintro e w1 ⟨rfl,hg1⟩
 have hcell:=hg1.ext.cell
 have G1:Hid (Gr w w1):=((Gr.refl _).alloc _ _).trans hg1
 clear hg1 H1
 cases B
 ·go_wp2_with fail
  go_ret
  exact ⟨rBool (by rw [hV.out];rfl),G1.out⟩
 ·by_cases k2:k=2
  ·have U2:Hid (∀ wq,Gr w wq→Calls Tryz.prog 77 #[.string s] wq fun e w'=>e=.returned (.bool u)∧Gr wq w'):=U.out k2
   subst k2
   clear U
   go_wp2_with (go_at_call 77;refine (U2.out _ G1.out).mono ?_;rintro e w2 ⟨rfl,hg2⟩;have G2:Hid (Gr w w2):=G1.out.trans hg2;clear hg2 hcell)
   ·go_ret
    refine ⟨rBool ?_,G2.out⟩
    rw [hV.out]
    clear hV
    simp_all
    try omega
   ·go_ret
    refine ⟨rBool ?_,G1.out⟩
    rw [hV.out]
    clear hV
    simp_all
    try omega
  ·clear U
   go_wp2_with (go_at_call 78;refine (H2.out _).mono ?_;rintro e w2 ⟨rfl,rfl⟩)
   all_goals
    go_ret
    refine ⟨rBool ?_,G1.out⟩
    rw [hV.out]
    clear hV hcell H2
    simp_all
theorem infoValue:(Tryz.prog.info? 39).map (·.size)=some 5:=by kernel_rfl
def zeroV (v:Vl):Bool:=v.k == 0 && bareV v
theorem isZeroValue_at (v:Vl) (w:World):Calls Tryz.prog 54 #[v.val] w fun e w'=>e=.returned (.bool (zeroV v))∧Gr w w':=by
 have H1:Hid (v.k=0→∀ wq,Calls Tryz.prog 56 #[v.val] wq fun e w'=>e=.returned (.bool (bareV v))∧Gr wq w'):=by
  intro hk wq
  have:=valid_at v false wq (fun h2=>absurd h2 (by rw [hk];decide))
  rw [show validV v false=bareV v from by unfold validV;rw [hk];simp] at this
  exact this
 have hV:Hid (zeroV v=(v.k == 0 && bareV v)):=rfl
 generalize zeroV v=V at *
 generalize bareV v=B at *
 obtain ⟨k,x,s,b,f⟩:=v
 simp only at *
 by_cases k0:k=0
 ·have H2:Hid (∀ wq,Calls Tryz.prog 56 #[.agg #[.int .i64 k,.float .f64 x,.string s,.bool b,.int .i64 f]] wq fun e w'=>e=.returned (.bool B)∧Gr wq w'):=H1.out k0
  subst k0
  clear H1
  go_enter Tryz.func54,Tryz.ntmps54
  go_wp2_with fail
  refine (H2.out _).mono ?_
  rintro e w1 ⟨rfl,hg1⟩
  have G1:Hid (Gr w w1):=((Gr.refl _).alloc _ _).trans hg1
  clear hg1 H2
  go_wp2_with fail
  go_ret
  exact ⟨rBool (by rw [hV.out];rfl),G1.out⟩
 ·clear H1
  have hk:(k == 0)=false:=by simpa using k0
  have G1:Hid (∀ a t,Gr w (w.alloc (.cells a t))):=fun a t=>(Gr.refl w).alloc _ _
  go_enter Tryz.func54,Tryz.ntmps54
  go_wp2_with fail
  go_ret
  exact ⟨rBool (by rw [hV.out,hk];rfl),G1.out _ _⟩
theorem ofNumber_at (x:Nat) (hx:x < 18446744073709551616) (w:World) :
  Calls Tryz.prog 58 #[.float .f64 x] w fun e w'=>e=.returned (.agg #[.int .i64 1,.float .f64 (one x),.string ⟨#[]⟩,.bool false,.int .i64 0])∧Gr w w':=by
 have H1:Hid (∀ w,Calls Tryz.prog 82 #[.float .f64 x] w fun e w'=>e=.returned (.float .f64 (one x))∧w'=w):=one_any x hx
 generalize one x=y at *
 go_enter Tryz.func58,Tryz.ntmps58
 go_wp2_with (go_at_call 82;refine (H1.out _).mono ?_;rintro e w' ⟨rfl,rfl⟩)
 refine bodyPost_ret (results_cell_row rfl _ _ w.heap.size 39 _ (0,0) _ rfl (heap_alloc_new _ _) Tryz.underlying39 rfl infoValue) rfl ?_
 exact ⟨rfl,(Gr.refl _).alloc _ _⟩
def zHd:Hd:=⟨0,0,0,⟨#[]⟩,false,0,0,0,false,false,0,0,false,false⟩
def zNd:Nd:=.mk zHd []
theorem zNd_ok:zNd.ok:=by unfold zNd;rw [Nd.ok,okL];exact ⟨by decide,trivial⟩
theorem zNd_in (w:World) (F:Nat→Prop):NdIn w F (.slice none 0 0) zNd:=by
 unfold zNd;rw [NdIn];exact ⟨none,0,rfl,by simp,by unfold maxLen;omega,.inl ⟨rfl,.inl rfl⟩⟩
def zeroN (t:Nd):Bool:=tsame t zNd
theorem isZeroNode_at (t:Nd) (sl:Value) (F:Nat→Prop) (w:World) (hok:t.ok) (hin:NdIn w F sl t) :
  Calls Tryz.prog 55 #[t.hd.val sl] w fun e w'=>e=.returned (.bool (zeroN t))∧Gr w w':=by
 have H1:Hid (∀ wq,Gr w wq→Calls Tryz.prog 70 #[t.hd.val sl,.agg #[.int .i64 0,.int .i64 0,.float .f64 0,.string ⟨#[]⟩,.bool false,.int .i64 0,.int .i64 0,.int .i64 0,.bool false,.bool false,.int .i64 0,.int .i64 0,.bool false,.bool false,.slice none 0 0]] wq fun e w'=>e=.returned (.bool (zeroN t))∧Gr wq w'):=
  fun wq hq=>tsame_at t zNd sl (.slice none 0 0) F F wq hok zNd_ok (hin.gr hq) (zNd_in wq F)
 generalize zeroN t=V at *
 generalize t.hd=h at *
 clear hin hok
 go_enter Tryz.func55,Tryz.ntmps55
 go_wp2_with fail
 refine (H1.out _ ((Gr.refl _).alloc _ _)).mono ?_
 rintro e w1 ⟨rfl,hg1⟩
 have G1:Hid (Gr w w1):=((Gr.refl _).alloc _ _).trans hg1
 clear hg1 H1
 go_wp2_with fail
 go_ret
 exact ⟨rfl,G1.out⟩
def validC (c:Ct) (u:Bool) (e:Int):Bool:=(c.k == 0 && (zeroV c.v && zeroN c.t)) || (c.k == 1 && (c.v.k != 0 && validV c.v u && zeroN c.t)) || (c.k == 2 && (zeroV c.v && e == 0))
theorem gValid_at (c:Ct) (sl:Value) (F:Nat→Prop) (u:Bool) (ec:Int) (w:World) (hok:c.t.ok) (hin:NdIn w F sl c.t)
  (U:Hid (c.k=1→c.v.k=2→∀ wq,Gr w wq→Calls Tryz.prog 77 #[.string c.v.s] wq fun e w'=>e=.returned (.bool u)∧Gr wq w'))
  (CK:Hid (c.k=2→∀ wq,Gr w wq→Calls Tryz.prog 57 #[c.t.hd.val sl] wq fun e w'=>e=.returned (.int .i64 ec)∧Below wq.heap.size wq w')) :
  Calls Tryz.prog 34 #[c.val sl] w fun e w'=>e=.returned (.bool (validC c u ec))∧Below w.heap.size w w':=by
 have H1:Hid (∀ w,Calls Tryz.prog 54 #[c.v.val] w fun e w'=>e=.returned (.bool (zeroV c.v))∧Gr w w'):=isZeroValue_at c.v
 have H2:Hid (∀ wq,Gr w wq→Calls Tryz.prog 55 #[c.t.hd.val sl] wq fun e w'=>e=.returned (.bool (zeroN c.t))∧Gr wq w'):=fun wq hq=>isZeroNode_at c.t sl F wq hok (hin.gr hq)
 have H3:Hid (c.k=1→∀ wq,Gr w wq→Calls Tryz.prog 56 #[c.v.val] wq fun e w'=>e=.returned (.bool (validV c.v u))∧Gr wq w'):=fun h1 wq hq=>valid_at c.v u wq (fun h2 w2 q2=>U.out h1 h2 w2 (hq.trans q2))
 have hV:Hid (validC c u ec=((c.k == 0 && (zeroV c.v && zeroN c.t)) || (c.k == 1 && (c.v.k != 0 && validV c.v u && zeroN c.t)) || (c.k == 2 && (zeroV c.v && ec == 0)))):=rfl
 generalize validC c u ec=V at *
 generalize zeroV c.v=Z at *
 generalize zeroN c.t=ZN at *
 generalize validV c.v u=VV at *
 obtain ⟨k,⟨vk,vx,vs,vb,vf⟩,t⟩:=c
 simp only at *
 clear U hin hok
 have GA:Hid (∀ a t,Gr w (w.alloc (.cells a t))):=fun a t=>(Gr.refl w).alloc _ _
 by_cases k0:k=0
 ·subst k0
  clear H3 CK
  go_enter Tryz.func34,Tryz.ntmps34
  go_wp2_with fail
  refine (H1.out _).mono ?_
  rintro e w1 ⟨rfl,hg1⟩
  have hcell:=hg1.ext.cell
  have G1:Hid (Gr w w1):=(GA.out _ _).trans hg1
  clear hg1 H1
  cases Z
  ·go_wp2_with fail
   go_ret
   exact ⟨rBool (by rw [hV.out];rfl),gr_below G1.out⟩
  ·go_wp2_with fail
   refine (H2.out _ G1.out).mono ?_
   rintro e w2 ⟨rfl,hg2⟩
   have G2:Hid (Gr w w2):=G1.out.trans hg2
   clear hg2 H2 hcell
   go_wp2_with fail
   go_ret
   exact ⟨rBool (by rw [hV.out];cases ZN <;> rfl),gr_below G2.out⟩
 ·by_cases k1:k=1
  ·have H4:Hid (∀ wq,Gr w wq→Calls Tryz.prog 56 #[.agg #[.int .i64 vk,.float .f64 vx,.string vs,.bool vb,.int .i64 vf]] wq fun e w'=>e=.returned (.bool VV)∧Gr wq w'):=H3.out k1
   subst k1
   clear H3 CK H1
   by_cases v0:vk=0
   ·subst v0
    go_enter Tryz.func34,Tryz.ntmps34
    go_wp2_with fail
    go_ret
    exact ⟨rBool (by rw [hV.out];rfl),gr_below (GA.out _ _)⟩
   ·have hv0:(vk != 0)=true:=by simpa using v0
    go_enter Tryz.func34,Tryz.ntmps34
    go_wp2_with fail
    refine (H4.out _ (GA.out _ _)).mono ?_
    rintro e w1 ⟨rfl,hg1⟩
    have hcell:=hg1.ext.cell
    have G1:Hid (Gr w w1):=(GA.out _ _).trans hg1
    clear hg1 H4
    cases VV
    ·go_wp2_with fail
     go_ret
     exact ⟨rBool (by rw [hV.out,hv0];rfl),gr_below G1.out⟩
    ·go_wp2_with fail
     refine (H2.out _ G1.out).mono ?_
     rintro e w2 ⟨rfl,hg2⟩
     have G2:Hid (Gr w w2):=G1.out.trans hg2
     clear hg2 H2 hcell
     go_wp2_with fail
     go_ret
     exact ⟨rBool (by rw [hV.out,hv0];cases ZN <;> rfl),gr_below G2.out⟩
  ·by_cases k2:k=2
   ·have H4:Hid (∀ wq,Gr w wq→Calls Tryz.prog 57 #[t.hd.val sl] wq fun e w'=>e=.returned (.int .i64 ec)∧Below wq.heap.size wq w'):=CK.out k2
    subst k2
    clear H3 CK H2
    go_enter Tryz.func34,Tryz.ntmps34
    go_wp2_with fail
    refine (H1.out _).mono ?_
    rintro e w1 ⟨rfl,hg1⟩
    have hcell:=hg1.ext.cell
    have G1:Hid (Gr w w1):=(GA.out _ _).trans hg1
    clear hg1 H1
    cases Z
    ·go_wp2_with fail
     go_ret
     exact ⟨rBool (by rw [hV.out];rfl),gr_below G1.out⟩
    ·go_wp2_with fail
     refine (H4.out _ G1.out).mono ?_
     rintro e w2 ⟨rfl,hg2⟩
     have G2:Hid (Below w.heap.size w w2):=(gr_below G1.out).trans (hg2.mono G1.out.ext.size)
     clear hg2 H4 hcell
     go_wp2_with fail
     all_goals
      go_ret
      refine ⟨rBool ?_,G2.out⟩
      rw [hV.out]
      simp_all
   ·have h0:(k == 0)=false:=by simpa using k0
    have h1:(k == 1)=false:=by simpa using k1
    have h2:(k == 2)=false:=by simpa using k2
    clear H1 H2 H3 CK
    go_enter Tryz.func34,Tryz.ntmps34
    go_wp2_with fail
    go_ret
    exact ⟨rBool (by rw [hV.out,h0,h1,h2];rfl),gr_below (GA.out _ _)⟩
def cpC (c:Ct):Ct:=⟨c.k,{ c.v with x:=one c.v.x },cpy c.t⟩
theorem infoContent:(Tryz.prog.info? 46).map (·.size)=some 21:=by kernel_rfl
theorem Ct.one (c:Ct) {sl:Value} (hs:sl.oneCell'=true):(#[.int .i64 c.k,.int .i64 c.v.k,.float .f64 c.v.x,.string c.v.s,.bool c.v.b,.int .i64 c.v.f,
 .int .i64 c.t.hd.k,.int .i64 c.t.hd.o,.float .f64 c.t.hd.x,.string c.t.hd.s,.bool c.t.hd.b,.int .i64 c.t.hd.f,.int .i64 c.t.hd.c1,.int .i64 c.t.hd.r1,.bool c.t.hd.p1,.bool c.t.hd.q1,.int .i64 c.t.hd.c2,.int .i64 c.t.hd.r2,.bool c.t.hd.p2,.bool c.t.hd.q2,sl]:Array Value).all (·.oneCell')=true:=by
 simpa [Value.oneCell'] using hs
theorem rangeAt_mid {w:World} {b:Nat} {pre l post:List Value} {t:TypeId} {fr:Nat×Nat} (hb:w.heap[b]? = some (.cells (pre ++ l ++ post).toArray t fr)):w.rangeAt b pre.length l:=by
 intro j v hj
 rw [cell_of_row w b _ _ _ _ hb]
 have hlt:j < l.length:=(List.getElem?_eq_some_iff.1 hj).1
 simp only [List.getElem?_toArray]
 rw [List.append_assoc,List.getElem?_append_right (by omega),Nat.add_sub_cancel_left,List.getElem?_append_left hlt]
 exact hj
theorem setAll_mid (pre old new post:List Value) (h:old.length=new.length):setAll (pre ++ old ++ post).toArray pre.length new=(pre ++ new ++ post).toArray:=by
 apply Array.ext_getElem?
 intro i
 rw [setAll_get _ _ _ _ (by simp;omega)]
 simp only [List.getElem?_toArray]
 by_cases h1:pre.length≤i∧i < pre.length+new.length
 ·rw [if_pos h1,List.append_assoc,List.getElem?_append_right h1.1,List.getElem?_append_left (by omega)]
 ·rw [if_neg h1]
  by_cases h2:i < pre.length
  ·rw [List.append_assoc,List.append_assoc,List.getElem?_append_left h2,List.getElem?_append_left h2]
  ·rw [List.getElem?_append_right (by simp;omega),List.getElem?_append_right (by simp;omega),List.length_append,List.length_append,h]
theorem heap_setCells_mid {w:World} {b:Nat} {pre old new post:List Value} {t:TypeId} (h:old.length=new.length) (hb:w.heap[b]? = some (.cells (pre ++ old ++ post).toArray t (0,0))) :
  (w.setCells b pre.length new).heap[b]? = some (.cells (pre ++ new ++ post).toArray t (0,0)):=by
 rw [heap_setCells_at _ _ _ _ hb,setAll_mid _ _ _ _ h]
theorem wpList_store_to {P:Program} {ops:Array Oper} {rest:List Oper} {op:Oper} {a:Act} {w:World} {Q:Exit→Act→World→Prop} (hgd:op.guard=none) (ty:TypeId) (x y:Operand) (ho:op.op=.store ty x y)
  (b o:Nat) (cells:Array Value) (hx:a.eval x=.pointer (some ⟨b,o,none⟩)) (hy:a.eval y=.agg cells)
  (ht:w.there b o cells.size) (hi:(P.info? ty).map (·.size)=some cells.size) (h1:cells.all (·.oneCell')=true) (W3:World) (hW:w.setCells b o cells.toList=W3)
  (h:wpList P ops Q rest (a.put op.dst undef) W3):wpList P ops Q (op :: rest) a w:=
 wpList_store_mid hgd ty x y ho b o cells hx hy ht hi h1 (by rw [hW];exact h)
@[go_sem] theorem field_x (a c d f:Value) (y:Nat) (w:World):(Instr.field 39 (.agg #[a,.float .f64 y,c,d,f]) 1).run Tryz.prog w=.ok (.float .f64 y) w:=by
 unfold Instr.field
 rw [Sem.run_bind,run_underlying Tryz.underlying39 w]
 simp [part,asAgg,isAgg,run_underlying Tryz.underlying37 w,Sem.run_bind]
theorem gCopy_at (c:Ct) (sl:Value) (F:Nat→Prop) (w:World) (hx:c.v.x < 18446744073709551616) (hm:c.t.size≤1048576) (hok:c.t.ok) (hin:NdIn w F sl c.t) :
  Calls Tryz.prog 38 #[c.val sl] w fun e w'=>∃ sl' fp,e=.returned ((cpC c).val sl')∧Own w' w.heap.size sl' (cpC c).t fp∧Below w.heap.size w w':=by
 have H1:Hid (∀ w,Calls Tryz.prog 58 #[.float .f64 c.v.x] w fun e w'=>e=.returned (.agg #[.int .i64 1,.float .f64 (Go.Proofs.YtlppcfeakakpfaaGreatDoor.one c.v.x),.string ⟨#[]⟩,.bool false,.int .i64 0])∧Gr w w'):=ofNumber_at c.v.x hx
 have H2:Hid (∀ wq,Below w.heap.size w wq→Calls Tryz.prog 59 #[c.t.hd.val sl] wq fun e w'=>∃ sl' fp,e=.returned ((cpy c.t).hd.val sl')∧Own w' wq.heap.size sl' (cpy c.t) fp∧Below wq.heap.size wq w'):=
  fun wq hq=>copy_at c.t sl F wq hm hok (hin.mono fun b hb hlt=>⟨hq.block b hlt,hb⟩)
 obtain ⟨k,⟨vk,vx,vs,vb,vf⟩,t⟩:=c
 unfold cpC
 simp only at *
 generalize Go.Proofs.YtlppcfeakakpfaaGreatDoor.one vx=y at *
 generalize cpy t=u at *
 clear hin hok hx hm
 go_enter Tryz.func38,Tryz.ntmps38
 go_wp2_with fail
 refine (H1.out _).mono ?_
 rintro e w1 ⟨rfl,hg1⟩
 have B0:Hid (w1.heap[w.heap.size]? = some (.cells #[.int .i64 k,.int .i64 vk,.float .f64 vx,.string vs,.bool vb,.int .i64 vf,.int .i64 t.hd.k,.int .i64 t.hd.o,.float .f64 t.hd.x,.string t.hd.s,.bool t.hd.b,.int .i64 t.hd.f,.int .i64 t.hd.c1,.int .i64 t.hd.r1,.bool t.hd.p1,.bool t.hd.q1,.int .i64 t.hd.c2,.int .i64 t.hd.r2,.bool t.hd.p2,.bool t.hd.q2,sl] 46 (0,0))):=by
  show _=_
  rw [hg1.ext.block _ (by simp [World.size_alloc] <;> omega),heap_alloc2_old]
 have B1:Hid (w1.heap[w.heap.size+1]? = some (.cells #[.int .i64 0,.int .i64 0,.float .f64 0,.string ⟨#[]⟩,.bool false,.int .i64 0,.int .i64 0,.int .i64 0,.float .f64 0,.string ⟨#[]⟩,.bool false,.int .i64 0,.int .i64 0,.int .i64 0,.bool false,.bool false,.int .i64 0,.int .i64 0,.bool false,.bool false,.slice none 0 0] 46 (0,0))):=by
  show _=_
  rw [hg1.ext.block _ (by simp [World.size_alloc]),heap_alloc2_new]
 have GW:Hid (Below w.heap.size w w1):=(((Below.refl _ _).alloc (Nat.le_refl _) _).alloc (by simp [World.size_alloc]) _).trans ((gr_below hg1).mono (by simp [World.size_alloc];omega))
 clear hg1 H1
 have D0:Hid ((w1.setCell ⟨w.heap.size,2,none⟩ (.float .f64 y)).heap[w.heap.size]? = some (.cells #[.int .i64 k,.int .i64 vk,.float .f64 y,.string vs,.bool vb,.int .i64 vf,.int .i64 t.hd.k,.int .i64 t.hd.o,.float .f64 t.hd.x,.string t.hd.s,.bool t.hd.b,.int .i64 t.hd.f,.int .i64 t.hd.c1,.int .i64 t.hd.r1,.bool t.hd.p1,.bool t.hd.q1,.int .i64 t.hd.c2,.int .i64 t.hd.r2,.bool t.hd.p2,.bool t.hd.q2,sl] 46 (0,0))):=by
  show _=_
  rw [heap_setCell_same w1 _ 2 _ _ _ B0.out]
  rfl
 have D1:Hid ((w1.setCell ⟨w.heap.size,2,none⟩ (.float .f64 y)).heap[w.heap.size+1]? = some (.cells #[.int .i64 0,.int .i64 0,.float .f64 0,.string ⟨#[]⟩,.bool false,.int .i64 0,.int .i64 0,.int .i64 0,.float .f64 0,.string ⟨#[]⟩,.bool false,.int .i64 0,.int .i64 0,.int .i64 0,.bool false,.bool false,.int .i64 0,.int .i64 0,.bool false,.bool false,.slice none 0 0] 46 (0,0))):=(heap_setCell_other w1 _ _ _ (by simp)).trans B1.out
 have GW1:Hid (Below w.heap.size w (w1.setCell ⟨w.heap.size,2,none⟩ (.float .f64 y))):=GW.out.setCell (Nat.le_refl _) _
 have c2:w1.cell? ⟨w.heap.size,2,none⟩=some (.float .f64 vx):=cell_of_row w1 _ 2 _ _ _ B0.out
 have f2:w1.frozen? ⟨w.heap.size,2,none⟩=false:=frozen_of_row w1 _ 2 _ _ B0.out
 have RF:Hid ((w1.setCell ⟨w.heap.size,2,none⟩ (.float .f64 y)).rangeAt w.heap.size 6 (t.hd.cells sl)):=rangeAt_mid (pre:=[.int .i64 k,.int .i64 vk,.float .f64 y,.string vs,.bool vb,.int .i64 vf]) (l:=t.hd.cells sl) (post:=[]) D0.out
 clear B0 B1 GW
 go_wp2_with (refine wpList_load_mid rfl 44 (.tmp 10) rfl w.heap.size 6 rfl (t.hd.cells sl) _ RF.out Tryz.underlying44 rfl infoNode ?_)
 refine (H2.out _ GW1.out).mono ?_
 rintro e w2 ⟨sl',fp,rfl,hown,hbw⟩
 have hsz:w.heap.size+1 < (w1.setCell ⟨w.heap.size,2,none⟩ (.float .f64 y)).heap.size:=(Array.getElem?_eq_some_iff.1 D1.out).1
 have E0:Hid (w2.heap[w.heap.size]? = some (.cells #[.int .i64 k,.int .i64 vk,.float .f64 y,.string vs,.bool vb,.int .i64 vf,.int .i64 t.hd.k,.int .i64 t.hd.o,.float .f64 t.hd.x,.string t.hd.s,.bool t.hd.b,.int .i64 t.hd.f,.int .i64 t.hd.c1,.int .i64 t.hd.r1,.bool t.hd.p1,.bool t.hd.q1,.int .i64 t.hd.c2,.int .i64 t.hd.r2,.bool t.hd.p2,.bool t.hd.q2,sl] 46 (0,0))):=(hbw.block _ (by omega)).trans D0.out
 have E1:Hid (w2.heap[w.heap.size+1]? = some (.cells #[.int .i64 0,.int .i64 0,.float .f64 0,.string ⟨#[]⟩,.bool false,.int .i64 0,.int .i64 0,.int .i64 0,.float .f64 0,.string ⟨#[]⟩,.bool false,.int .i64 0,.int .i64 0,.int .i64 0,.bool false,.bool false,.int .i64 0,.int .i64 0,.bool false,.bool false,.slice none 0 0] 46 (0,0))):=(hbw.block _ hsz).trans D1.out
 have O1:Hid (sl'.oneCell'=true):=hown.own.one
 have F0:Hid ((w2.setCells w.heap.size 6 (u.hd.cells sl')).heap[w.heap.size]? = some (.cells #[.int .i64 k,.int .i64 vk,.float .f64 y,.string vs,.bool vb,.int .i64 vf,.int .i64 u.hd.k,.int .i64 u.hd.o,.float .f64 u.hd.x,.string u.hd.s,.bool u.hd.b,.int .i64 u.hd.f,.int .i64 u.hd.c1,.int .i64 u.hd.r1,.bool u.hd.p1,.bool u.hd.q1,.int .i64 u.hd.c2,.int .i64 u.hd.r2,.bool u.hd.p2,.bool u.hd.q2,sl'] 46 (0,0))):=heap_setCells_mid (pre:=[.int .i64 k,.int .i64 vk,.float .f64 y,.string vs,.bool vb,.int .i64 vf]) (old:=t.hd.cells sl) (new:=u.hd.cells sl') (post:=[]) rfl E0.out
 have F1:Hid ((w2.setCells w.heap.size 6 (u.hd.cells sl')).heap[w.heap.size+1]? = some (.cells #[.int .i64 0,.int .i64 0,.float .f64 0,.string ⟨#[]⟩,.bool false,.int .i64 0,.int .i64 0,.int .i64 0,.float .f64 0,.string ⟨#[]⟩,.bool false,.int .i64 0,.int .i64 0,.int .i64 0,.bool false,.bool false,.int .i64 0,.int .i64 0,.bool false,.bool false,.slice none 0 0] 46 (0,0))):=(heap_setCells_ne (by omega) _ _ _).trans E1.out
 have T0:Hid (w2.there w.heap.size 6 15):=there_of_block E0.out _ _ (by simp)
 obtain ⟨W3,hW3⟩:∃ W3,w2.setCells w.heap.size 6 (u.hd.cells sl')=W3:=⟨_,rfl⟩
 have HW3:Hid (w2.setCells w.heap.size 6 (u.hd.cells sl')=W3):=hW3
 rw [hW3] at F0 F1
 have RC:Hid (W3.rangeAt w.heap.size 0 [.int .i64 k,.int .i64 vk,.float .f64 y,.string vs,.bool vb,.int .i64 vf,.int .i64 u.hd.k,.int .i64 u.hd.o,.float .f64 u.hd.x,.string u.hd.s,.bool u.hd.b,.int .i64 u.hd.f,.int .i64 u.hd.c1,.int .i64 u.hd.r1,.bool u.hd.p1,.bool u.hd.q1,.int .i64 u.hd.c2,.int .i64 u.hd.r2,.bool u.hd.p2,.bool u.hd.q2,sl']):=rangeAt_mid (pre:=[]) (post:=[]) F0.out
 have T1:Hid (W3.there (w.heap.size+1) 0 21):=there_of_block F1.out _ _ (by simp)
 have L1:Hid ((W3.setCells (w.heap.size+1) 0 [.int .i64 k,.int .i64 vk,.float .f64 y,.string vs,.bool vb,.int .i64 vf,.int .i64 u.hd.k,.int .i64 u.hd.o,.float .f64 u.hd.x,.string u.hd.s,.bool u.hd.b,.int .i64 u.hd.f,.int .i64 u.hd.c1,.int .i64 u.hd.r1,.bool u.hd.p1,.bool u.hd.q1,.int .i64 u.hd.c2,.int .i64 u.hd.r2,.bool u.hd.p2,.bool u.hd.q2,sl']).heap[w.heap.size+1]? = some (.cells #[.int .i64 k,.int .i64 vk,.float .f64 y,.string vs,.bool vb,.int .i64 vf,.int .i64 u.hd.k,.int .i64 u.hd.o,.float .f64 u.hd.x,.string u.hd.s,.bool u.hd.b,.int .i64 u.hd.f,.int .i64 u.hd.c1,.int .i64 u.hd.r1,.bool u.hd.p1,.bool u.hd.q1,.int .i64 u.hd.c2,.int .i64 u.hd.r2,.bool u.hd.p2,.bool u.hd.q2,sl'] 46 (0,0))):=heap_setCells_whole (cs:=#[.int .i64 k,.int .i64 vk,.float .f64 y,.string vs,.bool vb,.int .i64 vf,.int .i64 u.hd.k,.int .i64 u.hd.o,.float .f64 u.hd.x,.string u.hd.s,.bool u.hd.b,.int .i64 u.hd.f,.int .i64 u.hd.c1,.int .i64 u.hd.r1,.bool u.hd.p1,.bool u.hd.q1,.int .i64 u.hd.c2,.int .i64 u.hd.r2,.bool u.hd.p2,.bool u.hd.q2,sl']) F1.out (by simp)
 have OW:Hid (Own (W3.setCells (w.heap.size+1) 0 [.int .i64 k,.int .i64 vk,.float .f64 y,.string vs,.bool vb,.int .i64 vf,.int .i64 u.hd.k,.int .i64 u.hd.o,.float .f64 u.hd.x,.string u.hd.s,.bool u.hd.b,.int .i64 u.hd.f,.int .i64 u.hd.c1,.int .i64 u.hd.r1,.bool u.hd.p1,.bool u.hd.q1,.int .i64 u.hd.c2,.int .i64 u.hd.r2,.bool u.hd.p2,.bool u.hd.q2,sl']) w.heap.size sl' u fp):=by
  refine ⟨hown.own.mono (fun b hb=>?_),hown.nodup,fun b hb=>?_⟩
  ·have:=(hown.new b hb).1
   rw [heap_setCells_ne (by omega),← hW3,heap_setCells_ne (by omega)]
  ·rw [size_setCells,← hW3,size_setCells]
   exact ⟨by have:=(hown.new b hb).1;omega,(hown.new b hb).2⟩
 have BW:Hid (Below w.heap.size w (W3.setCells (w.heap.size+1) 0 [.int .i64 k,.int .i64 vk,.float .f64 y,.string vs,.bool vb,.int .i64 vf,.int .i64 u.hd.k,.int .i64 u.hd.o,.float .f64 u.hd.x,.string u.hd.s,.bool u.hd.b,.int .i64 u.hd.f,.int .i64 u.hd.c1,.int .i64 u.hd.r1,.bool u.hd.p1,.bool u.hd.q1,.int .i64 u.hd.c2,.int .i64 u.hd.r2,.bool u.hd.p2,.bool u.hd.q2,sl'])):=
  setCells_below (hW3 ▸ setCells_below (GW1.out.trans (hbw.mono (by omega))) (Nat.le_refl _) _ _) (Nat.le_succ _) _ _
 clear hW3 hown hbw H2 D0 D1 GW1 c2 f2 RF E0 E1 F0 F1 hsz
 go_wp2_with (first|(refine wpList_store_to rfl 44 (.tmp 13) (.tmp 12) rfl w.heap.size 6 _ rfl rfl T0.out infoNode (u.hd.one O1.out) W3 HW3.out ?_)|(refine wpList_load_mid rfl 46 (.tmp 1) rfl w.heap.size 0 rfl [.int .i64 k,.int .i64 vk,.float .f64 y,.string vs,.bool vb,.int .i64 vf,.int .i64 u.hd.k,.int .i64 u.hd.o,.float .f64 u.hd.x,.string u.hd.s,.bool u.hd.b,.int .i64 u.hd.f,.int .i64 u.hd.c1,.int .i64 u.hd.r1,.bool u.hd.p1,.bool u.hd.q1,.int .i64 u.hd.c2,.int .i64 u.hd.r2,.bool u.hd.p2,.bool u.hd.q2,sl'] _ RC.out Tryz.underlying46 rfl infoContent ?_)|(refine wpList_store_mid rfl 46 (.tmp 2) (.tmp 14) rfl (w.heap.size+1) 0 _ rfl rfl T1.out infoContent (Ct.one ⟨k,⟨vk,y,vs,vb,vf⟩,u⟩ O1.out) ?_))
 refine bodyPost_ret (results_cell_row rfl _ _ (w.heap.size+1) 46 _ (0,0) _ rfl L1.out Tryz.underlying46 rfl infoContent) rfl ?_
 exact ⟨_,_,rfl,OW.out,BW.out⟩
theorem ownsRow_below {w w':World} {B:Nat} {e:TypeId} {k:Nat} {v:Value} {n:Nat} {xs:List Value} (h:w.ownsRow B e k v n xs) (g:Below w.heap.size w w'):w'.ownsRow B e k v n xs:=
 h.kept ⟨g.os,g.tape,g.output,g.size,fun i hi _=>g.block i hi⟩ (row:=none) (by cases hv:v.ownBlock <;> simp)
theorem hd_ones (h:Hd) {sl:Value} (hs:sl.oneCell'=true):∀ u∈h.cells sl,u.oneCell'=true:=by
 intro u hu
 have:=h.one hs
 rw [Array.all_eq_true'] at this
 exact this u (by simpa using hu)
theorem rangeAt_alloc_two (w:World) (cs:List Value) (t:TypeId) (o:Obj):((w.alloc (.cells cs.toArray t)).alloc o).rangeAt w.heap.size 0 cs:=by
 have:=((Blk.new w cs t).alloc o)
 intro j v hj
 rw [Nat.zero_add]
 exact this.cell hj
theorem ownNode_any (N:Nat):∀ (t:Nd) (sl:Value) (F:Nat→Prop) (w:World),t.size≤N→t.size≤1048576→NdIn w F sl t →
  Calls Tryz.prog 39 #[t.hd.val sl] w fun e w'=>∃ sl' fp,e=.returned (t.hd.val sl')∧Own w' w.heap.size sl' t fp∧Below w.heap.size w w':=by
 induction N with
 | zero=>intro t sl F w h;have:=size_pos t;omega
 | succ N ih=>
  intro t sl F w hN hm hin
  obtain ⟨h,ts⟩:=t
  rw [NdIn] at hin
  obtain ⟨a,c,rfl,_,_,h4⟩:=hin
  have hsz:Hid ((Nd.mk h ts).size=1+sizeL ts):=by show _=_;rw [Nd.size]
  have HN:Hid ((Nd.mk h ts).size≤N+1):=hN
  have HM:Hid ((Nd.mk h ts).size≤1048576):=hm
  have IH:Hid (∀ (t:Nd) (sl:Value) (F:Nat→Prop) (w:World),t.size≤N→t.size≤1048576→NdIn w F sl t →
   Calls Tryz.prog 39 #[t.hd.val sl] w fun e w'=>∃ sl' fp,e=.returned (t.hd.val sl')∧Own w' w.heap.size sl' t fp∧Below w.heap.size w w'):=ih
  have H4:Hid ((ts=[]∧(c=0∨a≠none))∨∃ b o,a=some ⟨b,o,none⟩∧F b∧NdsIn w F b o ts):=h4
  have hln:=length_sizeL ts
  have HLM:Hid (ts.length≤1048576):=by show _≤_;have:=hsz.out;omega
  clear ih hN hm h4 hln
  simp only [Nd.hd]
  generalize hn:ts.length=n at *
  have HL:Hid (ts.length=n):=hn
  clear hn
  obtain ⟨W0,hW0⟩:∃ W0,(((w.alloc (.cells (h.cells (.slice a n c)).toArray 44)).alloc (.cells [.int .i64 0,.int .i64 0,.float .f64 0,.string ⟨#[]⟩,.bool false,.int .i64 0,.int .i64 0,.int .i64 0,.bool false,.bool false,.int .i64 0,.int .i64 0,.bool false,.bool false,.slice none 0 0].toArray 44)).alloc (.cells (h.cells (.slice none 0 0)).toArray 44))=W0:=⟨_,rfl⟩
  have OS:=OwAt.start (w:=w) (h.cells (.slice a n c)) [.int .i64 0,.int .i64 0,.float .f64 0,.string ⟨#[]⟩,.bool false,.int .i64 0,.int .i64 0,.int .i64 0,.bool false,.bool false,.int .i64 0,.int .i64 0,.bool false,.bool false,.slice none 0 0] h
  rw [hW0] at OS
  have HOS:Hid (OwAt w W0 (h.cells (.slice a n c)) [.int .i64 0,.int .i64 0,.float .f64 0,.string ⟨#[]⟩,.bool false,.int .i64 0,.int .i64 0,.int .i64 0,.bool false,.bool false,.int .i64 0,.int .i64 0,.bool false,.bool false,.slice none 0 0] h [] (.slice none 0 0) []):=OS
  have RR:Hid (∀ o,((w.alloc (.cells (h.cells (.slice a n c)).toArray 44)).alloc o).rangeAt w.heap.size 0 (h.cells (.slice a n c))):=fun o=>rangeAt_alloc_two w _ _ o
  clear OS
  obtain ⟨k,o',x,s,bb,f,c1,r1,p1,q1,c2,r2,p2,q2⟩:=h
  have HW:Hid ((((w.alloc (.cells #[.int .i64 k,.int .i64 o',.float .f64 x,.string s,.bool bb,.int .i64 f,.int .i64 c1,.int .i64 r1,.bool p1,.bool q1,.int .i64 c2,.int .i64 r2,.bool p2,.bool q2,.slice a n c] 44)).alloc (.cells #[.int .i64 0,.int .i64 0,.float .f64 0,.string ⟨#[]⟩,.bool false,.int .i64 0,.int .i64 0,.int .i64 0,.bool false,.bool false,.int .i64 0,.int .i64 0,.bool false,.bool false,.slice none 0 0] 44)).alloc (.cells #[.int .i64 k,.int .i64 o',.float .f64 x,.string s,.bool bb,.int .i64 f,.int .i64 c1,.int .i64 r1,.bool p1,.bool q1,.int .i64 c2,.int .i64 r2,.bool p2,.bool q2,.slice none 0 0] 44))=W0):=hW0
  clear hW0
  obtain ⟨i0,hi,hz0,hz1,hz2⟩:=infoNodeI
  go_enter Tryz.func39,Tryz.ntmps39
  go_wp2_with (first|(refine wpList_load_mid rfl 44 (.tmp 1) rfl w.heap.size 0 rfl (Hd.cells ⟨k,o',x,s,bb,f,c1,r1,p1,q1,c2,r2,p2,q2⟩ (.slice a n c)) _ (RR.out _) Tryz.underlying44 rfl infoNode ?_)|(refine wpList_store_new rfl 44 (.tmp 3) (.tmp 5) rfl _ _ _ _ _ (by first|rfl|simp) rfl rfl rfl infoNode (Hd.one ⟨k,o',x,s,bb,f,c1,r1,p1,q1,c2,r2,p2,q2⟩ rfl) ?_))
  rw [HW.out]
  clear HW RR
  go_loopw [4] (fun i wr=>∃ (q:Nat) (v:Value) (fp:List Nat),q≤n∧i=.int .i64 q∧OwAt w wr (Hd.cells ⟨k,o',x,s,bb,f,c1,r1,p1,q1,c2,r2,p2,q2⟩ (.slice a n c)) [.int .i64 0,.int .i64 0,.float .f64 0,.string ⟨#[]⟩,.bool false,.int .i64 0,.int .i64 0,.int .i64 0,.bool false,.bool false,.int .i64 0,.int .i64 0,.bool false,.bool false,.slice none 0 0] ⟨k,o',x,s,bb,f,c1,r1,p1,q1,c2,r2,p2,q2⟩ (ts.take q) v fp) (fun i _=>n - (intOf i).toNat)
  case atStart=>exact ⟨0,.slice none 0 0,[],Nat.zero_le _,rfl,by rw [List.take_zero];exact HOS.out⟩
  case round=>
   obtain ⟨q,v,fp,hq,rfl,hat⟩:=hrel
   have AT:Hid (OwAt w wr (Hd.cells ⟨k,o',x,s,bb,f,c1,r1,p1,q1,c2,r2,p2,q2⟩ (.slice a n c)) [.int .i64 0,.int .i64 0,.float .f64 0,.string ⟨#[]⟩,.bool false,.int .i64 0,.int .i64 0,.int .i64 0,.bool false,.bool false,.int .i64 0,.int .i64 0,.bool false,.bool false,.slice none 0 0] ⟨k,o',x,s,bb,f,c1,r1,p1,q1,c2,r2,p2,q2⟩ (ts.take q) v fp):=hat
   have hlt3:=hat.lt
   have x14:wr.cell? ⟨w.heap.size,14,none⟩=some (.slice a n c):=hat.b1.cell rfl
   by_cases hlt:q < n
   ·have hqt:q < ts.length:=by rw [HL.out];exact hlt
    obtain ⟨b,o,rfl,hFb,hns⟩:∃ b o,a=some ⟨b,o,none⟩∧F b∧NdsIn w F b o ts:=by
     rcases H4.out with h|h
     ·rw [h.1] at hqt;simp at hqt
     ·exact h
    obtain ⟨s1,hr,hni⟩:=hns.get q hqt
    obtain ⟨pv,lv,cv,rfl⟩:=ndOwn_slice hat.own.own
    obtain ⟨xs,hxs⟩:=hat.own.row
    have hul:Hid ((ts.take q).length=q):=by show _=_;rw [List.length_take];omega
    have hbw:b < w.heap.size:=rangeAt_lt hr
    have HS:Hid (∀ wq,Below (w.heap.size+3) wr wq→wq.cell? ⟨w.heap.size,14,none⟩=some (.slice (some ⟨b,o,none⟩) n c)∧wq.cell? ⟨w.heap.size+2,14,none⟩=some (.slice pv lv cv)):=fun wq hk=>⟨(hk.cell (by simp)).trans (hat.b1.cell rfl),(hk.cell (by simp)).trans (hat.b3.cell rfl)⟩
    have HR:Hid (∀ wq,Below (w.heap.size+3) wr wq→wq.rangeAt b (o+q * 15) ((ts[q]).hd.cells s1)):=fun wq hk=>rangeAt_block hr ((hk.block b (by omega)).trans (hat.bel.block b hbw))
    have hs1:=size_get ts q hqt
    have hni':∀ wq,Below wr.heap.size wr wq→NdIn wq F s1 ts[q]:=fun wq hk=>hni.mono fun b hb hl=>⟨(hk.block b (by omega)).trans (hat.bel.block b hl),hb⟩
    have HC:Hid (∀ wq,Below wr.heap.size wr wq→Calls Tryz.prog 39 #[(ts[q]).hd.val s1] wq fun e w'=>∃ sl' fp,e=.returned ((ts[q]).hd.val sl')∧Own w' wq.heap.size sl' (ts[q]) fp∧Below wq.heap.size wq w'):=fun wq hq=>IH.out ts[q] s1 F wq (by have:=HN.out;have:=hsz.out;omega) (by have:=HM.out;have:=hsz.out;omega) (hni' wq hq)
    have hu3:Hid (ts.take (q+1)=ts.take q ++ [ts[q]]):=by show _=_;rw [List.take_add_one,List.getElem?_eq_getElem hqt];rfl
    have O1:Hid (s1.oneCell'=true):=hni.one
    clear hs1 hni hni' hr hns
    generalize ts[q]=u at *
    generalize ts.take q=us at *
    have hkb:(q:Int)+1≤9223372036854775807:=by have:=HLM.out;omega
    have hq0:(0:Int)≤(q:Int):=by omega
    have hqn:(q:Int) < (n:Int):=by omega
    have HX3:Hid (∀ w2,Below wr.heap.size wr w2→∀ o,(w2.alloc o).ownsRow (w.heap.size+3) 44 15 (.slice pv lv cv) us.length xs):=fun w2 h2 o=>(ownsRow_below hxs h2).alloc o
    clear hat hxs
    go_wp2_with fail
    refine wp_region_noPanic ?_
    refine wp_region_but (fun w':World=>Below (w.heap.size+3) wr w') 11 (by kernel_rfl) ((Below.refl _ _).drew) (fun hHeld=>?_)
    refine wpBut_takes (i:=0) (v:=?_) (some 14) rfl rfl (by kernel_rfl) (by kernel_rfl) (by kernel_rfl) (by kernel_rfl) (fun _ _ _ h=>h) (Or.inl ⟨by rfl,?_⟩) hHeld ?_
    rotate_left
    ·intro w' hSw;obtain ⟨s0,s1⟩:=HS.out _ hSw;clear hSw;go_simp;try with_reducible rfl
    simp only [Act.put,List.setIfInBounds_toArray,List.set_cons_zero,List.set_cons_succ]
    refine wpBut_takes (i:=1) (v:=?_) (some 15) rfl rfl (by kernel_rfl) (by kernel_rfl) (by kernel_rfl) (by kernel_rfl) (fun _ _ _ h=>h) (Or.inl ⟨by rfl,?_⟩) hHeld ?_
    rotate_left
    ·intro w' hSw;obtain ⟨s0,s1⟩:=HS.out _ hSw;clear hSw;go_simp;try with_reducible rfl
    simp only [Act.put,List.setIfInBounds_toArray,List.set_cons_zero,List.set_cons_succ]
    refine wpBut_takes (i:=2) (v:=?_) (some 16) rfl rfl (by kernel_rfl) (by kernel_rfl) (by kernel_rfl) (by kernel_rfl) (fun _ _ _ h=>h) (Or.inl ⟨by rfl,?_⟩) hHeld ?_
    rotate_left
    ·intro w' hSw;obtain ⟨s0,s1⟩:=HS.out _ hSw;clear hSw;go_simp;try with_reducible rfl
    simp only [Act.put,List.setIfInBounds_toArray,List.set_cons_zero,List.set_cons_succ]
    refine wpBut_takes (i:=3) (v:=?_) (some 17) rfl rfl (by kernel_rfl) (by kernel_rfl) (by kernel_rfl) (by kernel_rfl) (fun _ _ _ h=>h) (Or.inl ⟨by rfl,?_⟩) hHeld ?_
    rotate_left
    ·intro w' hSw;obtain ⟨s0,s1⟩:=HS.out _ hSw;clear hSw;go_simp;try with_reducible rfl
    simp only [Act.put,List.setIfInBounds_toArray,List.set_cons_zero,List.set_cons_succ]
    refine wpBut_takes (i:=4) (v:=?_) (some 18) rfl rfl (by kernel_rfl) (by kernel_rfl) (by kernel_rfl) (by kernel_rfl) (fun _ _ _ h=>h) (Or.inl ⟨by rfl,?_⟩) hHeld ?_
    rotate_left
    ·intro w' hSw;obtain ⟨s0,s1⟩:=HS.out _ hSw;clear hSw;go_simp;try with_reducible rfl
    simp only [Act.put,List.setIfInBounds_toArray,List.set_cons_zero,List.set_cons_succ]
    refine wpBut_takes (i:=5) (v:=?_) (some 19) rfl rfl (by kernel_rfl) (by kernel_rfl) (by kernel_rfl) (by kernel_rfl) (fun _ _ _ h=>h) (Or.inl ⟨by rfl,?_⟩) hHeld ?_
    rotate_left
    ·intro w' hSw;obtain ⟨s0,s1⟩:=HS.out _ hSw;clear hSw;go_simp;try with_reducible rfl
    simp only [Act.put,List.setIfInBounds_toArray,List.set_cons_zero,List.set_cons_succ]
    refine wpBut_takes (i:=6) (v:=u.hd.val s1) (some 20) rfl rfl (by kernel_rfl) (by kernel_rfl) (by kernel_rfl) (by kernel_rfl) (fun _ _ _ h=>h) (Or.inl ⟨by rfl,fun w' hSw=>exec_node_at (u.hd.cells s1) rfl rfl (HR.out w' hSw) rfl⟩) hHeld ?_
    simp only [Act.put,List.setIfInBounds_toArray,List.set_cons_zero,List.set_cons_succ]
    refine wpBut_step (i:=7) (by kernel_rfl) rfl rfl (fun K hK=>?_)
    go_simp
    refine (HC.out _ ((Below.refl _ _).drew)).mono ?_
    rintro e w2 ⟨su,fu,rfl,hown,hbl⟩
    have hb2:Below wr.heap.size wr w2:=((Below.refl wr.heap.size wr).drew).trans hbl
    have HB2:Hid (Below wr.heap.size wr w2):=hb2
    have HU:Hid (Own w2 wr.heap.size su u fu):=hown
    refine hK.out _ _ (fun _=>hb2.mono hlt3) (fun _=>?_)
    clear hK K hHeld hown hbl HC HS HR x14
    refine wpBut_step (i:=8) (by kernel_rfl) rfl rfl (fun K hK=>?_)
    go_simp
    refine hK.out _ _ (fun _=>(hb2.alloc hb2.size _).mono hlt3) (fun _=>?_)
    clear hK K
    refine wpBut_step (i:=9) (by kernel_rfl) rfl rfl (fun K hK=>?_)
    refine wp_append_tell _ (.tmp 15) (.tmp 22) 42 rfl (w.heap.size+3) 44 i0 _ 15 128 Tryz.underlying42 hi hz0 hz1 hz2 rfl (by decide) (.slice pv lv cv) us.length xs rfl (HX3.out w2 HB2.out _) ⟨w2.heap.size,0,none⟩ 1 1 (u.hd.cells su) rfl rfl ?c1 ?c2 (by decide) ?c3 ?c4 ?c5 ?_
    case c1=>
     intro j u' hj
     rw [addr_at,Nat.zero_add]
     exact (Blk.new w2 (u.hd.cells su) 44).cell hj
    case c2=>exact hd_ones u.hd HU.out.own.one
    case c3=>rw [hul.out];unfold maxLen;omega
    case c4=>rw [hul.out];have:=HLM.out;omega
    case c5=>have:=hb2.size;simp [World.size_alloc];omega
    intro g c' w4 ho hgr ht
    obtain ⟨fp',hat5⟩:=AT.out.step HB2.out (Nat.le_refl _) HU.out (HX3.out w2 HB2.out _) ho hgr ht
    have h4b:Below (w.heap.size+3) wr w4:=by
     refine ⟨hgr.os.trans hb2.os,hgr.tape.trans hb2.tape,hgr.output.trans hb2.output,?_,fun i hi=>?_⟩
     ·have h1:=hgr.size;have h2:=hb2.size;rw [World.size_alloc] at h1;omega
     ·rw [hgr.block i (by rw [World.size_alloc];have:=hb2.size;omega) (fun e=>by have:=((HX3.out w2 HB2.out (.cells #[] 0)).lt i e.symm).1;omega),Below.heap_alloc _ _ _ (by have:=hb2.size;omega)]
      exact hb2.block i (by omega)
    have A5:Hid (OwAt w _ _ _ _ _ _ fp'):=hat5
    refine hK.out _ _ (fun _=>h4b) (fun hHeld=>?_)
    have f3:w4.frozen? ⟨w.heap.size+2,14,none⟩=false:=by
     have:Blk w4 (w.heap.size+2) _ 44:=(h4b.block _ (by omega)).trans AT.out.b3
     exact this.froz _
    have c3:w4.cell? ⟨w.heap.size+2,14,none⟩=some (.slice pv lv cv):=by
     have:Blk w4 (w.heap.size+2) _ 44:=(h4b.block _ (by omega)).trans AT.out.b3
     exact this.cell rfl
    clear hK K hat5 ho hgr ht h4b hb2
    simp only [Act.put,List.setIfInBounds_toArray]
    refine wpBut_step (i:=10) (by kernel_rfl) rfl rfl (fun K hK=>?_)
    go_simp
    refine hK.out _ _ (fun _=>hHeld (by decide)) (fun _=>?_)
    clear hK K
    refine wpBut_step (i:=11) (by kernel_rfl) rfl rfl (fun K hK=>?_)
    go_simp
    refine hK.out _ _ (fun h=>absurd rfl h) (fun _=>?_)
    clear hK K hHeld c3 f3
    refine wpBut_done (by kernel_rfl) ?_
    refine NoPanic.normal ?_
    go_wp2_with fail
    go_roundw
    case rel=>exact ⟨q+1,_,fp',by omega,by go_num,by rw [hu3.out];exact A5.out⟩
    case measure=>simp only [intOf];omega
   ·have hqe:q=n:=by omega
    subst hqe
    have hqn:¬ ((q:Int) < (q:Int)):=by omega
    have hall:ts.take q=ts:=by rw [List.take_of_length_le (by rw [HL.out];exact Nat.le_refl _)]
    have R3:Hid (wr.rangeAt (w.heap.size+2) 0 (Hd.cells ⟨k,o',x,s,bb,f,c1,r1,p1,q1,c2,r2,p2,q2⟩ v)):=fun j u hj=>by rw [Nat.zero_add];exact hat.b3.cell hj
    have T1:Hid (wr.there (w.heap.size+1) 0 15):=there_of_block hat.b2 _ _ (by simp)
    obtain ⟨W5,hW5⟩:∃ W5,wr.setCells (w.heap.size+1) 0 (Hd.cells ⟨k,o',x,s,bb,f,c1,r1,p1,q1,c2,r2,p2,q2⟩ v)=W5:=⟨_,rfl⟩
    have HW5:Hid (wr.setCells (w.heap.size+1) 0 (Hd.cells ⟨k,o',x,s,bb,f,c1,r1,p1,q1,c2,r2,p2,q2⟩ v)=W5):=hW5
    have E1:Hid (W5.heap[w.heap.size+1]? = some (.cells (Hd.cells ⟨k,o',x,s,bb,f,c1,r1,p1,q1,c2,r2,p2,q2⟩ v).toArray 44 (0,0))):=by
     show _=_
     rw [← hW5]
     exact heap_setCells_whole (cs:=(Hd.cells ⟨k,o',x,s,bb,f,c1,r1,p1,q1,c2,r2,p2,q2⟩ v).toArray) hat.b2 (by simp)
    have OW:Hid (Own W5 w.heap.size v (.mk ⟨k,o',x,s,bb,f,c1,r1,p1,q1,c2,r2,p2,q2⟩ (ts)) fp):=by
     show Own _ _ _ _ _
     rw [← hall,← hW5]
     refine ⟨hat.own.own.mono (fun b hb=>heap_setCells_ne (by have:=(hat.own.new b hb).1;omega) _ _ _),hat.own.nodup,fun b hb=>?_⟩
     rw [size_setCells]
     exact ⟨by have:=(hat.own.new b hb).1;omega,(hat.own.new b hb).2⟩
    have BW:Hid (Below w.heap.size w W5):=by
     show Below _ _ _
     rw [← hW5]
     exact setCells_below hat.bel (Nat.le_succ _) _ _
    have O1:Hid (v.oneCell'=true):=hat.own.own.one
    clear hat AT IH H4 HOS hW5 hall
    go_wp2_with (first|(refine wpList_load_mid rfl 44 (.tmp 3) rfl (w.heap.size+2) 0 rfl (Hd.cells ⟨k,o',x,s,bb,f,c1,r1,p1,q1,c2,r2,p2,q2⟩ v) _ R3.out Tryz.underlying44 rfl infoNode ?_)|(refine wpList_store_to rfl 44 (.tmp 2) (.tmp 25) rfl (w.heap.size+1) 0 _ rfl rfl T1.out infoNode (Hd.one ⟨k,o',x,s,bb,f,c1,r1,p1,q1,c2,r2,p2,q2⟩ O1.out) W5 HW5.out ?_))
    refine bodyPost_ret (results_cell_row rfl _ _ (w.heap.size+1) 44 _ (0,0) _ rfl E1.out Tryz.underlying44 rfl infoNode) rfl ?_
    exact ⟨_,rfl,⟨_,OW.out⟩,BW.out⟩
def OvL (w:World) (sl:Value) (q:Nat) (ts:List Nd) (fp:List Nat):Prop:=
 ts.drop q=[]∨∃ b c pre post,sl=.slice (some ⟨b,0,none⟩) ts.length c∧fp=b :: (pre ++ post)∧NdsOwn w b (q * 15) (ts.drop q) post
theorem ownsRow_set {w:World} {B b n c:Nat} {xs:List Value} (h:w.ownsRow B 44 15 (.slice (some ⟨b,0,none⟩) n c) n xs) (o:Nat) (vs:List Value):∃ ys,(w.setCells b o vs).ownsRow B 44 15 (.slice (some ⟨b,0,none⟩) n c) n ys:=by
 rcases h.2 with ⟨e,_⟩|⟨g,c',cur,e,hB,hg,hn,hm,hs,ht⟩
 ·cases e
 ·simp only [Value.slice.injEq,Option.some.injEq,Addr.mk.injEq] at e
  obtain ⟨⟨rfl,_⟩,_,rfl⟩:=e
  have hl:(setAll cur o vs).toList.length=c * 15:=by rw [Array.length_toList,setAll_size];exact hs
  refine ⟨(setAll cur o vs).toList.take (n * 15),?_,.inr ⟨b,c,setAll cur o vs,rfl,hB,heap_setCells_at _ _ _ _ hg,hn,hm,by rw [setAll_size];exact hs,rfl⟩⟩
  rw [List.length_take,hl]
  exact Nat.min_eq_left (Nat.mul_le_mul_right 15 hn)
theorem over_any (N:Nat):∀ (t:Nd) (sl:Value) (fp:List Nat) (w:World),t.size≤N→t.size≤1048576→Own w 0 sl t fp →
  Calls Tryz.prog 20 #[t.hd.val sl] w fun e w'=>e=.returned (.tuple #[])∧Kp w w' (fun i=>i∈fp):=by
 induction N with
 | zero=>intro t sl fp w h;have:=size_pos t;omega
 | succ N ih=>
  intro t sl fp w hN hm how
  obtain ⟨h,ts⟩:=t
  have hsz:Hid ((Nd.mk h ts).size=1+sizeL ts):=by show _=_;rw [Nd.size]
  have HN:Hid ((Nd.mk h ts).size≤N+1):=hN
  have HM:Hid ((Nd.mk h ts).size≤1048576):=hm
  have IH:Hid (∀ (t:Nd) (sl:Value) (fp:List Nat) (w:World),t.size≤N→t.size≤1048576→Own w 0 sl t fp →
   Calls Tryz.prog 20 #[t.hd.val sl] w fun e w'=>e=.returned (.tuple #[])∧Kp w w' (fun i=>i∈fp)):=ih
  have hln:=length_sizeL ts
  have HLM:Hid (ts.length≤1048576):=by show _≤_;have:=hsz.out;omega
  clear ih hN hm hln
  obtain ⟨W0,hW0⟩:∃ W0,w.alloc (.cells (h.cells sl).toArray 44)=W0:=⟨_,rfl⟩
  have hk0:Kp w W0 Nul:=by rw [← hW0];exact (Kp.refl w Nul).alloc _
  have hb0:Blk W0 w.heap.size (h.cells sl) 44:=by rw [← hW0];exact Blk.new w _ _
  obtain ⟨xs0,hx0⟩:=how.row
  have hx1:W0.ownsRow 0 44 15 sl ts.length xs0:=by rw [← hW0];exact hx0.alloc _
  have hfb:Hid (∀ i∈fp,i < w.heap.size):=fun i hi=>(how.new i hi).2
  have hnd:Hid fp.Nodup:=how.nodup
  have hrw:Hid (∀ i,sl.ownBlock=some i→i∈fp):=by
   intro i hi
   have q:=how.own
   rw [NdOwn] at q
   rcases q with ⟨_,rfl,_⟩|⟨b,c,fps,cs,rfl,_,_,_,_,_,rfl,_⟩
   ·simp [Value.ownBlock] at hi
   ·simp [Value.ownBlock] at hi;rw [hi];exact List.mem_cons_self
  have hov:OvL W0 sl 0 ts fp:=by
   have q:=(how.below (by rw [← hW0];exact (Below.refl _ _).alloc (Nat.le_refl _) _):Own W0 0 sl (.mk h ts) fp).own
   rw [NdOwn] at q
   rcases q with ⟨rfl,_,_⟩|⟨b,c,fps,cs,rfl,_,_,_,_,_,rfl,h8⟩
   ·exact .inl rfl
   ·exact .inr ⟨b,c,[],fps,rfl,rfl,by simpa using h8⟩
  obtain ⟨pv,lv,cv,rfl⟩:=ndOwn_slice how.own
  have HST:Hid (Kp w W0 (fun i=>i∈fp)∧Blk W0 w.heap.size (h.cells (.slice pv lv cv)) 44∧(∃ xs,W0.ownsRow 0 44 15 (.slice pv lv cv) ts.length xs)∧OvL W0 (.slice pv lv cv) 0 ts fp):=⟨hk0.of_nul,hb0,⟨_,hx1⟩,hov⟩
  have hlv:Hid (lv=ts.length):=by
   show _=_
   have q:=how.own
   rw [NdOwn] at q
   rcases q with ⟨e1,e2,_⟩|⟨b,c,fps,cs,e2,_⟩
   ·simp only [Value.slice.injEq] at e2;rw [e1,e2.2.1];rfl
   ·simp only [Value.slice.injEq] at e2;exact e2.2.1
  clear how hk0 hb0 hx1 hx0 hov
  simp only [Nd.hd]
  generalize hn:ts.length=n at *
  have HL:Hid (ts.length=n):=hn
  obtain rfl:lv=n:=hlv.out
  have HW:Hid (w.alloc (.cells #[.int .i64 h.k,.int .i64 h.o,.float .f64 h.x,.string h.s,.bool h.b,.int .i64 h.f,.int .i64 h.c1,.int .i64 h.r1,.bool h.p1,.bool h.q1,.int .i64 h.c2,.int .i64 h.r2,.bool h.p2,.bool h.q2,.slice pv lv cv] 44)=W0):=hW0
  clear hn hW0 hlv
  obtain ⟨i0,hi,hz0,hz1,hz2⟩:=infoNodeI
  go_enter Tryz.func20,Tryz.ntmps20
  go_wp2_with fail
  rw [HW.out]
  clear HW
  go_loopw [2] (fun i wr=>∃ q:Nat,q≤lv∧i=.int .i64 q∧Kp w wr (fun i=>i∈fp)∧Blk wr w.heap.size (h.cells (.slice pv lv cv)) 44∧(∃ xs,wr.ownsRow 0 44 15 (.slice pv lv cv) lv xs)∧OvL wr (.slice pv lv cv) q ts fp) (fun i _=>lv - (intOf i).toNat)
  case atStart=>exact ⟨0,Nat.zero_le _,rfl,HST.out.1,HST.out.2.1,HST.out.2.2.1,HST.out.2.2.2⟩
  case round=>
   obtain ⟨q,hq,rfl,hkq,hbq,hxq,hoq⟩:=hrel
   clear HST
   have KQ:Hid (Kp w wr (fun i=>i∈fp)):=hkq
   have x14:wr.cell? ⟨w.heap.size,14,none⟩=some (.slice pv lv cv):=hbq.cell rfl
   by_cases hlt:q < lv
   ·have hqt:q < ts.length:=by rw [HL.out];exact hlt
    have hdr:ts.drop q=ts[q] :: ts.drop (q+1):=List.drop_eq_getElem_cons hqt
    obtain ⟨b,c,pre,post,e1,rfl,hno⟩:∃ b c pre post,Value.slice pv lv cv=.slice (some ⟨b,0,none⟩) ts.length c∧fp=b :: (pre ++ post)∧NdsOwn wr b (q * 15) (ts.drop q) post:=by
     rcases hoq with e|e
     ·rw [hdr] at e;cases e
     ·exact e
    simp only [Value.slice.injEq] at e1
    obtain ⟨rfl,hlv,rfl⟩:=e1
    clear hlv
    rw [hdr,NdsOwn] at hno
    obtain ⟨s1,f1,f2,hr,hno1,rfl,hno2⟩:=hno
    have hnd':=hnd.out
    rw [List.nodup_cons,List.nodup_append] at hnd'
    obtain ⟨hnb,_,hnf,_⟩:=hnd'
    rw [List.nodup_append] at hnf
    obtain ⟨hn1,_,hn12⟩:=hnf
    have hbf1:b ∉ f1:=fun hb=>hnb (List.mem_append_right _ (List.mem_append_left _ hb))
    have hbf2:b ∉ f2:=fun hb=>hnb (List.mem_append_right _ (List.mem_append_right _ hb))
    have hwsz:w.heap.size≤wr.heap.size:=hkq.size
    have ho1:Own wr 0 s1 ts[q] f1:=⟨hno1,hn1,fun i hi=>⟨Nat.zero_le _,Nat.lt_of_lt_of_le (hfb.out i (List.mem_cons_of_mem _ (List.mem_append_right _ (List.mem_append_left _ hi)))) hwsz⟩⟩
    have hpf:¬ w.heap.size∈b :: (pre ++ (f1 ++ f2)):=fun hb=>by have:=hfb.out _ hb;omega
    have hs1:=size_get ts q hqt
    have HC:=IH.out ts[q] s1 f1 wr (by have:=HN.out;have:=hsz.out;omega) (by have:=HM.out;have:=hsz.out;omega) ho1
    have HC':Hid (Calls Tryz.prog 20 #[(ts[q]).hd.val s1] wr fun e w'=>e=.returned (.tuple #[])∧Kp wr w' (fun i=>i∈f1)):=HC
    have R1:Hid (wr.rangeAt b (q * 15) ((ts[q]).hd.cells s1)):=hr
    have AFT:Hid (∀ w2,Kp wr w2 (fun i=>i∈f1)→∀ vs:List Value,vs.length=15→w2.cell? ⟨w.heap.size,14,none⟩=some (.slice (some ⟨b,0,none⟩) lv cv)∧w2.there b (q * 15) 15 ∧
      Kp w (w2.setCells b (q * 15) vs) (fun i=>i∈b :: (pre ++ (f1 ++ f2)))∧Blk (w2.setCells b (q * 15) vs) w.heap.size (h.cells (.slice (some ⟨b,0,none⟩) lv cv)) 44∧(∃ xs,(w2.setCells b (q * 15) vs).ownsRow 0 44 15 (.slice (some ⟨b,0,none⟩) lv cv) lv xs)∧OvL (w2.setCells b (q * 15) vs) (.slice (some ⟨b,0,none⟩) lv cv) (q+1) ts (b :: (pre ++ (f1 ++ f2)))):=by
     intro w2 hk2 vs hvs
     have hb2:Blk w2 w.heap.size (h.cells (.slice (some ⟨b,0,none⟩) lv cv)) 44:=hbq.kp hk2 (fun hi=>hpf (List.mem_cons_of_mem _ (List.mem_append_right _ (List.mem_append_left _ hi))))
     have hbe:w2.heap[b]? = wr.heap[b]?:=hk2.block b (rangeAt_lt hr) hbf1
     obtain ⟨xs,hx⟩:=hxq
     have hx2:w2.ownsRow 0 44 15 (.slice (some ⟨b,0,none⟩) lv cv) lv xs:=by
      refine ⟨hx.1,?_⟩
      rcases hx.2 with ⟨e,_⟩|⟨g,c',cur,e,hB,hg,r⟩
      ·cases e
      ·have e':=e
       simp only [Value.slice.injEq,Option.some.injEq,Addr.mk.injEq] at e'
       obtain ⟨⟨rfl,_⟩,_⟩:=e'
       exact .inr ⟨b,c',cur,e,hB,hbe.trans hg,r⟩
     have hkb:Kp w2 (w2.setCells b (q * 15) vs) (fun i=>i∈b :: (pre ++ (f1 ++ f2))):=setCells_kp _ List.mem_cons_self _ _ _
     have hk2':Kp w w2 (fun i=>i∈b :: (pre ++ (f1 ++ f2))):=hkq.trans (hk2.mono (fun i _ hi=>List.mem_cons_of_mem _ (List.mem_append_right _ (List.mem_append_left _ hi))))
     refine ⟨hb2.cell rfl,?_,hk2'.trans hkb,hb2.kp hkb hpf,ownsRow_set hx2 _ _,?_⟩
     ·rcases hx2.2 with ⟨e,_⟩|⟨g,c',cur,e,hB,hg,hnc,hm,hs,_⟩
      ·cases e
      ·simp only [Value.slice.injEq,Option.some.injEq,Addr.mk.injEq] at e
       obtain ⟨⟨rfl,_⟩,_,rfl⟩:=e
       exact there_of_block hg _ _ (by rw [hs];have:=Nat.mul_le_mul_right 15 (Nat.le_trans (Nat.succ_le_of_lt hlt) hnc);omega)
     ·refine .inr ⟨b,cv,pre ++ f1,f2,by rw [HL.out],by simp,?_⟩
      have n2:NdsOwn w2 b ((q+1) * 15) (ts.drop (q+1)) f2:=by
       rw [show (q+1) * 15=q * 15+15 by omega]
       refine hno2.mono (fun o' cs' _ _ hr'=>rangeAt_block hr' hbe) (fun i hi=>hk2.block i ?_ (fun hi1=>hn12 i hi1 i hi rfl))
       exact Nat.lt_of_lt_of_le (hfb.out i (List.mem_cons_of_mem _ (List.mem_append_right _ (List.mem_append_right _ hi)))) hwsz
      refine n2.mono (fun o' cs' ho' _ hr'=>World.rangeAt_setCells_apart hr' _ _ _ (.inr (.inr ?_))) (fun i hi=>heap_setCells_ne (by rintro rfl;exact hbf2 hi) _ _ _)
      rw [hvs];omega
    clear hkq hbq hxq hoq hr hno1 hno2 ho1 HC hs1
    generalize (ts[q]).hd=hh at *
    have hkb:(q:Int)+1≤9223372036854775807:=by have:=HLM.out;omega
    have hq0:(0:Int)≤(q:Int):=by omega
    have hqn:(q:Int) < (lv:Int):=by omega
    have R1':Hid (wr.rangeAt b (0+q * 15) (hh.cells s1)):=by show World.rangeAt _ _ _ _;rw [Nat.zero_add];exact R1.out
    go_wp2_with (refine wpList_load_mid rfl 44 (.tmp 14) rfl b (q * 15) rfl (hh.cells s1) _ R1.out Tryz.underlying44 rfl infoNode ?_)
    refine HC'.out.mono ?_
    rintro e w2 ⟨rfl,hk2⟩
    obtain ⟨y14,th2,a1,a2,a3,a4⟩:=AFT.out w2 hk2 [.int .i64 99,.int .i64 0,.float .f64 0,.string ⟨#[111,118,101,114]⟩,.bool false,.int .i64 0,.int .i64 0,.int .i64 0,.bool false,.bool false,.int .i64 0,.int .i64 0,.bool false,.bool false,.slice none 0 0] rfl
    obtain ⟨W3,hW3⟩:∃ W3,w2.setCells b (q * 15) [.int .i64 99,.int .i64 0,.float .f64 0,.string ⟨#[111,118,101,114]⟩,.bool false,.int .i64 0,.int .i64 0,.int .i64 0,.bool false,.bool false,.int .i64 0,.int .i64 0,.bool false,.bool false,.slice none 0 0]=W3:=⟨_,rfl⟩
    rw [hW3] at a1 a2 a3 a4
    have HW3:Hid (w2.setCells b (q * 15) [.int .i64 99,.int .i64 0,.float .f64 0,.string ⟨#[111,118,101,114]⟩,.bool false,.int .i64 0,.int .i64 0,.int .i64 0,.bool false,.bool false,.int .i64 0,.int .i64 0,.bool false,.bool false,.slice none 0 0]=W3):=hW3
    have HA:Hid (Kp w W3 (fun i=>i∈b :: (pre ++ (f1 ++ f2)))∧Blk W3 w.heap.size (h.cells (.slice (some ⟨b,0,none⟩) lv cv)) 44∧(∃ xs,W3.ownsRow 0 44 15 (.slice (some ⟨b,0,none⟩) lv cv) lv xs)∧OvL W3 (.slice (some ⟨b,0,none⟩) lv cv) (q+1) ts (b :: (pre ++ (f1 ++ f2)))):=⟨a1,a2,a3,a4⟩
    have TH2:Hid (w2.there b (q * 15) 15):=th2
    clear a1 a2 a3 a4 hW3 th2 AFT hk2 x14 HC' R1 R1' KQ
    go_wp2_with (refine wpList_store_to rfl 44 (.tmp 21) (.tmp 20) rfl b (q * 15) _ rfl rfl TH2.out infoNode (by simp [Value.oneCell']) W3 HW3.out ?_)
    go_roundw
    case rel=>exact ⟨q+1,by omega,by go_num,HA.out.1,HA.out.2.1,HA.out.2.2.1,HA.out.2.2.2⟩
    case measure=>simp only [intOf];omega
   ·have hqe:q=lv:=by omega
    subst hqe
    have hqn:¬ ((q:Int) < (q:Int)):=by omega
    obtain ⟨xs,hx⟩:=hxq
    have hx3:∀ o,(wr.alloc o).ownsRow 0 44 15 (.slice pv q cv) q xs:=fun o=>hx.alloc o
    have HX3:Hid (∀ o,(wr.alloc o).ownsRow 0 44 15 (.slice pv q cv) q xs):=hx3
    have hkb:(q:Int)+1≤9223372036854775807:=by have:=HLM.out;omega
    clear hkq hbq hx hoq hx3 IH
    go_wp2_with (at_builtin;refine wpList_append_tell _ rfl (.tmp 23) (.tmp 25) 42 rfl 0 44 i0 _ 15 128 Tryz.underlying42 hi hz0 hz1 hz2 rfl (by decide) (.slice pv q cv) q xs rfl (HX3.out _) ⟨wr.heap.size,0,none⟩ 1 1 [.int .i64 98,.int .i64 0,.float .f64 0,.string ⟨#[]⟩,.bool false,.int .i64 0,.int .i64 0,.int .i64 0,.bool false,.bool false,.int .i64 0,.int .i64 0,.bool false,.bool false,.slice none 0 0] rfl rfl ?c1 ?c2 (by decide) ?c3 ?c4 ?c5 ?_)
    case c2=>exact ⟨rfl,rfl,rfl,rfl,rfl,rfl,rfl,rfl,rfl,rfl⟩
    case c3=>unfold maxLen;have:=HLM.out;omega
    case c4=>have:=HLM.out;omega
    intro g c' w4 ho hgr ht
    have hrow:∃ cur,w4.heap[g]? = some (.cells cur 44 (0,0))∧q+1≤c'∧cur.size=c' * 15:=by
     rcases ho.2 with ⟨e,_⟩|⟨g',c2,cur,e,hbg,hgg,hnc,hcm,hcs,_⟩
     ·cases e
     ·simp only [Value.slice.injEq,Option.some.injEq,Addr.mk.injEq] at e
      obtain ⟨⟨rfl,_⟩,_,rfl⟩:=e
      exact ⟨cur,hgg,hnc,hcs⟩
    obtain ⟨cur,hgg,hnc,hcs⟩:=hrow
    have hsz4:q * 15 < cur.size:=by rw [hcs];have:=Nat.mul_le_mul_right 15 hnc;omega
    have cg:w4.cell? ⟨g,q * 15,none⟩=some cur[q * 15]:=by rw [cell_of_row w4 g (q * 15) cur _ _ hgg,Array.getElem?_eq_getElem hsz4]
    have fg:w4.frozen? ⟨g,q * 15,none⟩=false:=frozen_of_row w4 _ _ _ _ hgg
    have hk4:Kp w w4 (fun i=>i∈fp):=(KQ.out.alloc _).trans (Kp.of_grown hgr hrw.out)
    have END:Hid (∀ v,Kp w (w4.setCell ⟨g,q * 15,none⟩ v) (fun i=>i∈fp)):=fun v=>hk4.setCell _ _ (by
     rcases ht with e|e
     ·exact .inr (hrw.out g e)
     ·refine .inl ?_
      have:=KQ.out.size
      show w.heap.size≤g
      omega)
    clear ho hgr ht hgg hk4 KQ x14
    go_wp2_with fail
    go_end0
    exact ⟨rfl,END.out _⟩
end Go.Proofs.YtlppcfeakakpfaaGreatDoor
