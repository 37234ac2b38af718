/-Copy: a tree of nodes in new memory. -/
import Derived.Test.YtecjfnkakodebaaGreatDoorQwXt
import Derived.Test.YtecjfnkakodebaaGreatDoorQwXv
set_option maxRecDepth 20000
set_option maxHeartbeats 8000000
namespace Go.Proofs.YtecjfnkakodebaaGreatDoor
open Go.RowKit
mutual
def cpy:Nd->Nd
 | .mk h ts=>.mk { h with x:=one h.x } (cpyL ts)
def cpyL:List Nd->List Nd
 | []=>[]
 | t::ts=>cpy t::cpyL ts
end
theorem cpyL_map:∀ts:List Nd,cpyL ts=ts.map cpy
 | []=>by rw[cpyL];rfl
 | t::ts=>by rw[cpyL,cpyL_map ts];rfl
theorem cpyL_len (ts:List Nd):(cpyL ts).length=ts.length:=by rw[cpyL_map,List.length_map]
theorem cpyL_take (ts:List Nd) (k:Nat) (h:k<ts.length):cpyL (ts.take (k+1))=cpyL (ts.take k)++[cpy ts[k]]:=by
 rw[cpyL_map,cpyL_map,List.take_add_one,List.getElem?_eq_getElem h,List.map_append];rfl
mutual
theorem cpy_size:∀t:Nd,(cpy t).size=t.size
 | .mk h ts=>by rw[cpy,Nd.size,Nd.size,cpyL_size ts]
theorem cpyL_size:∀ts:List Nd,sizeL (cpyL ts)=sizeL ts
 | []=>by rw[cpyL]
 | t::ts=>by rw[cpyL,sizeL,sizeL,cpy_size t,cpyL_size ts]
end
mutual
theorem cpy_ok:∀t:Nd,t.ok->(cpy t).ok
 | .mk h ts,q=>by rw[Nd.ok] at q;rw[cpy,Nd.ok];exact⟨one_lt _ q.1,cpyL_ok ts q.2⟩
theorem cpyL_ok:∀ts:List Nd,okL ts->okL (cpyL ts)
 | [],_=>by rw[cpyL,okL];trivial
 | t::ts,q=>by rw[okL] at q;rw[cpyL,okL];exact⟨cpy_ok t q.1,cpyL_ok ts q.2⟩
end
theorem infoNodeZ:(Tryz.prog.info? 48).map (fun i=>(i.zero,i.size,i.bytes))=some (some (.agg #[.int .i64 0,.int .i64 0,.float .f64 0,.string ⟨#[]⟩,.bool false,.int .i64 0,.int .i64 0,.int .i64 0,.bool false,.bool false,.int .i64 0,.int .i64 0,.bool false,.bool false,.slice none 0 0]),15,128):=by kernel_rfl
theorem make_nodes (n:Nat) (hn:n<=1048576) (w:World):∃cs:Array Value,cs.size=n*15 /\
  (Instr.makeSlice 46 (.int .i64 (n:Int)) (.int .i64 (n:Int))).run Tryz.prog w=.ok (.slice (some ⟨w.heap.size,0,none⟩) n n) (w.alloc (.cells cs 48)):=by
 obtain⟨i,hi,h1⟩:∃i,Tryz.prog.info? 48=some i/\(i.zero,i.size,i.bytes)=(some (.agg #[.int .i64 0,.int .i64 0,.float .f64 0,.string ⟨#[]⟩,.bool false,.int .i64 0,.int .i64 0,.int .i64 0,.bool false,.bool false,.int .i64 0,.int .i64 0,.bool false,.bool false,.slice none 0 0]),15,128):=by
  have:=infoNodeZ
  cases h:Tryz.prog.info? 48 with
  | none=>rw[h] at this;cases this
  | some i=>rw[h] at this;exact⟨i,rfl,Option.some.inj this⟩
 simp only[Prod.mk.injEq] at h1
 obtain⟨hz,hs,hb⟩:=h1
 have:=run_make (P:=Tryz.prog) w 46 48 i _ Tryz.underlying46 hi hz .i64 .i64 n n (by omega) (Int.le_refl _) (by rw[hb];omega) (by omega)
 rw[Int.toNat_natCast] at this
 exact⟨_,by rw[size_madeCells,hs],this⟩
theorem there_of_block {w:World} {b:Nat} {cs:Array Value} {t:TypeId} (hb:w.heap[b]? = some (.cells cs t (0,0))) (o n:Nat) (h:o+n<=cs.size):w.there b o n:=by
 intro j hj
 constructor
 ·rw[cell_of_row w b (o+j) cs t (0,0) hb,Array.getElem?_eq_getElem (by omega)];rfl
 ·simp[World.frozen?,hb]
theorem gr_below {w w':World} (h:Gr w w'):Below w.heap.size w w':=⟨h.ext.os,h.ext.tape,h.ext.output,h.ext.size,h.ext.block⟩
theorem copy_none (h:Hd) (hx:h.x<18446744073709551616) (a:Option Addr) (c:Nat) (w:World) :
  Calls Tryz.prog 66 #[h.val (.slice a 0 c)] w fun e w'=>e=.returned (({ h with x:=one h.x }:Hd).val (.slice none 0 0))/\Below w.heap.size w w':=by
 have H1:Hid (∀w,Calls Tryz.prog 108 #[.float .f64 h.x] w fun e w'=>e=.returned (.float .f64 (one h.x))/\w'=w):=one_any h.x hx
 generalize one h.x=y at *
 obtain⟨k,o,x,s,b,f,c1,r1,p1,q1,c2,r2,p2,q2⟩:=h
 simp only at *
 go_enter Tryz.func66,Tryz.ntmps66
 go_wp2_with (go_at_call 108;refine(H1.out _).mono ?_;rintro e w' ⟨rfl,rfl⟩)
 generalize hW:((w.alloc (.cells #[.int .i64 k,.int .i64 o,.float .f64 y,.string s,.bool b,.int .i64 f,.int .i64 c1,.int .i64 r1,.bool p1,.bool q1,.int .i64 c2,.int .i64 r2,.bool p2,.bool q2,.slice none 0 0] 48)).alloc _)=W
 have HW:Hid (W=_):=hW.symm
 clear hW
 go_loopw[22] (fun i wr=>i=.int .i64 0/\wr=W) (fun _ _=>0)
 case atStart=>exact⟨rfl,rfl⟩
 case round=>
  obtain⟨rfl,rfl⟩:=hrel
  rw[HW.out]
  go_wp2_with (refine wpList_store_new rfl 48 (.tmp 2) (.tmp 34) rfl _ _ _ _ _ (by simp) rfl rfl rfl infoNode (Hd.one ⟨k,o,y,s,b,f,c1,r1,p1,q1,c2,r2,p2,q2⟩ rfl) ?_)
  refine bodyPost_ret (results_cell_row rfl _ _ (w.heap.size+1) 48 _ (0,0) _ rfl (heap_alloc2_new _ _ _) Tryz.underlying48 rfl infoNode) rfl ?_
  exact⟨rfl,((Below.refl _ _).alloc (Nat.le_refl _) _).alloc (by simp) _⟩
structure CpAt (W0 wr:World) (A n k:Nat) (us:List Nd) (fps:List Nat):Prop where
 below:Below A W0 wr
 lt:A<wr.heap.size
 row:∃cs,wr.heap[A]? = some (.cells cs 48 (0,0))/\cs.size=n*15
 len:us.length=k
 own:NdsOwn wr A 0 us fps
 nodup:fps.Nodup
 new:∀b∈fps,A<b/\b<wr.heap.size
theorem CpAt.step {W0 wr w1:World} {A n k:Nat} {us:List Nd} {fps:List Nat} (h:CpAt W0 wr A n k us fps) (hk:k<n) {B:Nat} (hB:wr.heap.size<=B) (hg:Below wr.heap.size wr w1) {sl:Value} {u:Nd} {f:List Nat} (hu:Own w1 B sl u f) :
  CpAt W0 (w1.setCells A (k*15) (u.hd.cells sl)) A n (k+1) (us++[u]) (fps++f):=by
 obtain⟨cs,h1,h2⟩:=h.row
 have hA:w1.heap[A]? = some (.cells cs 48 (0,0)):=(hg.block A h.lt).trans h1
 have hth:w1.there A (k*15) 15:=there_of_block hA _ _ (by omega)
 have hne:∀b,b≠A->(w1.setCells A (k*15) (u.hd.cells sl)).heap[b]? = w1.heap[b]?:=fun b hb=>heap_setCells_ne hb _ _ _
 refine⟨?_,?_,?_,?_,?_,?_,?_⟩
 ·exact setCells_below (h.below.trans (hg.mono (Nat.le_of_lt h.lt))) (Nat.le_refl _) _ _
 ·rw[size_setCells];exact Nat.lt_of_lt_of_le h.lt hg.size
 ·exact⟨_,heap_setCells_at _ _ _ _ hA,by rw[setAll_size,h2]⟩
 ·rw[List.length_append,h.len];rfl
 ·have o1:NdsOwn w1 A 0 us fps:=h.own.mono (fun o' cs' _ _ hr=>rangeAt_block hr (hg.block A h.lt)) (fun b hb=>hg.block b (h.new b hb).2)
  have o2:NdsOwn (w1.setCells A (k*15) (u.hd.cells sl)) A 0 us fps:=by
   refine o1.mono (fun o' cs' _ q hr=>?_) (fun b hb=>hne b (by have:=(h.new b hb).1;omega))
   exact World.rangeAt_setCells_apart hr _ _ _ (.inr (.inl (by rw[h.len] at q;omega)))
  refine NdsOwn.snoc (sl:=sl) (hu.own.mono (fun b hb=>hne b (by have:=(hu.new b hb).1;have:=h.lt;omega))) o2 ?_
  rw[h.len,Nat.zero_add]
  exact World.rangeAt_setCells_same _ _ _ _ (by simpa using hth)
 ·rw[List.nodup_append]
  refine⟨h.nodup,hu.nodup,fun b hb b' hb' e=>?_⟩
  subst e
  have:=(h.new b hb).2
  have:=(hu.new b hb').1
  omega
 ·intro b hb
  rw[size_setCells]
  rcases List.mem_append.1 hb with hb|hb
  ·exact⟨(h.new b hb).1,Nat.lt_of_lt_of_le (h.new b hb).2 hg.size⟩
  ·exact⟨by have:=(hu.new b hb).1;have:=h.lt;omega,(hu.new b hb).2⟩
theorem CpAt.done {W0 wr:World} {A n:Nat} {us:List Nd} {fps:List Nat} (h:CpAt W0 wr A n n us fps) (hn:0<n) (hm:n<=1048576) (g:Hd):Own wr A (.slice (some ⟨A,0,none⟩) n n) (.mk g us) (A::fps):=by
 obtain⟨cs,h1,h2⟩:=h.row
 refine⟨?_,?_,?_⟩
 ·rw[NdOwn]
  refine .inr ⟨A,n,fps,cs,by rw[h.len],fun e=>by have:=h.len;rw[e] at this;simp at this;omega,by rw[h.len];exact Nat.le_refl _,by unfold maxLen;omega,h1,h2,rfl,h.own⟩
 ·rw[List.nodup_cons]
  exact⟨fun hb=>by have:=(h.new A hb).1;omega,h.nodup⟩
 ·intro b hb
  rcases List.mem_cons.1 hb with rfl|hb
  ·exact⟨Nat.le_refl _,h.lt⟩
  ·exact⟨Nat.le_of_lt (h.new b hb).1,(h.new b hb).2⟩
theorem setAll_part (pre mid post cs:List Value) (h:mid.length=cs.length):setAll (pre++mid++post).toArray pre.length cs=(pre++cs++post).toArray:=by
 apply Array.ext_getElem?
 intro i
 rw[setAll_get _ _ _ _ (by simp;omega)]
 simp only[List.getElem?_toArray]
 by_cases h1:pre.length<=i/\i<pre.length+cs.length
 ·rw[if_pos h1,List.append_assoc,List.getElem?_append_right h1.1,List.getElem?_append_left (by omega)]
 ·rw[if_neg h1]
  by_cases h2:i<pre.length
  ·rw[List.append_assoc,List.append_assoc,List.getElem?_append_left h2,List.getElem?_append_left h2]
  ·rw[List.getElem?_append_right (by simp;omega),List.getElem?_append_right (by simp;omega)]
   simp only[List.length_append]
   rw[h]
theorem wpList_store_part {P:Program} {ops:Array Oper} {rest:List Oper} {op:Oper} {a:Act} {w:World} {Q:Exit->Act->World->Prop} (hgd:op.guard=none) (ty:TypeId) (x y:Operand) (ho:op.op=.store ty x y)
  (b o:Nat) (pre mid post cs:List Value) (t:TypeId) (hb:Blk w b (pre++mid++post) t) (hpo:pre.length=o) (hml:mid.length=cs.length) (hx:a.eval x=.pointer (some ⟨b,o,none⟩)) (hy:a.eval y=.agg cs.toArray)
  (hi:(P.info? ty).map (·.size)=some cs.length) (h1:cs.toArray.all (·.oneCell')=true)
  (h:∀W,Blk W b (pre++cs++post) t->Kp w W (fun i=>i=b)->wpList P ops Q rest (a.put op.dst undef) W):wpList P ops Q (op::rest) a w:=by
 subst hpo
 have hb':w.heap[b]? = some (.cells (pre++mid++post).toArray t (0,0)):=hb
 refine wpList_store_mid hgd ty x y ho b pre.length cs.toArray hx hy (there_of_block hb' _ _ (by simp;omega)) (by rw[hi];simp) h1 (h _ ?_ (setCells_kp (fun i=>i=b) rfl _ _ _))
 have:=heap_setCells_at cs.toArray.toList pre.length w _ hb'
 rw[List.toList_toArray,setAll_part pre mid post cs hml] at this
 rw[List.toList_toArray]
 exact this
theorem wpList_store_blk {P:Program} {ops:Array Oper} {rest:List Oper} {op:Oper} {a:Act} {w:World} {Q:Exit->Act->World->Prop} (hgd:op.guard=none) (ty:TypeId) (x y:Operand) (ho:op.op=.store ty x y)
  (b:Nat) (old cs:List Value) (t:TypeId) (hb:Blk w b old t) (hml:old.length=cs.length) (hx:a.eval x=.pointer (some ⟨b,0,none⟩)) (hy:a.eval y=.agg cs.toArray)
  (hi:(P.info? ty).map (·.size)=some cs.length) (h1:cs.toArray.all (·.oneCell')=true)
  (h:∀W,Blk W b cs t->Kp w W (fun i=>i=b)->wpList P ops Q rest (a.put op.dst undef) W):wpList P ops Q (op::rest) a w:=
 wpList_store_part hgd ty x y ho b 0 [] old [] cs t (by simpa using hb) rfl hml hx hy hi h1 (fun W hW=>h W (by simpa using hW))
theorem ndOwn_slice {w:World} {sl:Value} {t:Nd} {fp:List Nat} (h:NdOwn w sl t fp):∃p l c,sl=.slice p l c:=by
 cases t;rw[NdOwn] at h
 rcases h with ⟨_,rfl,_⟩|⟨b,c,_,_,rfl,_⟩
 ·exact⟨_,_,_,rfl⟩
 ·exact⟨_,_,_,rfl⟩
def Kc (X:World) (B A:Nat) (w':World):Prop:=∀a:Addr,a.block<B->a.block≠A->w'.cell? a=X.cell? a
theorem Kc.below {X w':World} {B A:Nat} (h:Below B X w'):Kc X B A w':=fun _ h1 _=>h.cell h1
theorem Kc.sets {X w':World} {B A:Nat} (h:Kc X B A w') (o:Nat) (vs:List Value):Kc X B A (w'.setCells A o vs):=fun a h1 h2=>by
 rw[World.cell?_setCells_out A vs o w' a (fun e=>absurd e h2)];exact h a h1 h2
theorem there15 {w:World} {b o:Nat} (h:w.there b o 15):∃y0 y1 y2 y3 y4 y5 y6 y7 y8 y9 y10 y11 y12 y13 y14,w.cell? ⟨b,o,none⟩=some y0/\w.cell? ⟨b,o+1,none⟩=some y1/\w.cell? ⟨b,o+2,none⟩=some y2/\w.cell? ⟨b,o+3,none⟩=some y3/\w.cell? ⟨b,o+4,none⟩=some y4/\w.cell? ⟨b,o+5,none⟩=some y5/\w.cell? ⟨b,o+6,none⟩=some y6/\w.cell? ⟨b,o+7,none⟩=some y7/\w.cell? ⟨b,o+8,none⟩=some y8/\w.cell? ⟨b,o+9,none⟩=some y9/\w.cell? ⟨b,o+10,none⟩=some y10/\w.cell? ⟨b,o+11,none⟩=some y11/\w.cell? ⟨b,o+12,none⟩=some y12/\w.cell? ⟨b,o+13,none⟩=some y13/\w.cell? ⟨b,o+14,none⟩=some y14/\w.frozen? ⟨b,o,none⟩=false/\w.frozen? ⟨b,o+1,none⟩=false/\w.frozen? ⟨b,o+2,none⟩=false/\w.frozen? ⟨b,o+3,none⟩=false/\w.frozen? ⟨b,o+4,none⟩=false/\w.frozen? ⟨b,o+5,none⟩=false/\w.frozen? ⟨b,o+6,none⟩=false/\w.frozen? ⟨b,o+7,none⟩=false/\w.frozen? ⟨b,o+8,none⟩=false/\w.frozen? ⟨b,o+9,none⟩=false/\w.frozen? ⟨b,o+10,none⟩=false/\w.frozen? ⟨b,o+11,none⟩=false/\w.frozen? ⟨b,o+12,none⟩=false/\w.frozen? ⟨b,o+13,none⟩=false/\w.frozen? ⟨b,o+14,none⟩=false:=by
 obtain⟨y0,t0⟩:=Option.isSome_iff_exists.1 (h 0 (by decide)).1
 obtain⟨y1,t1⟩:=Option.isSome_iff_exists.1 (h 1 (by decide)).1
 obtain⟨y2,t2⟩:=Option.isSome_iff_exists.1 (h 2 (by decide)).1
 obtain⟨y3,t3⟩:=Option.isSome_iff_exists.1 (h 3 (by decide)).1
 obtain⟨y4,t4⟩:=Option.isSome_iff_exists.1 (h 4 (by decide)).1
 obtain⟨y5,t5⟩:=Option.isSome_iff_exists.1 (h 5 (by decide)).1
 obtain⟨y6,t6⟩:=Option.isSome_iff_exists.1 (h 6 (by decide)).1
 obtain⟨y7,t7⟩:=Option.isSome_iff_exists.1 (h 7 (by decide)).1
 obtain⟨y8,t8⟩:=Option.isSome_iff_exists.1 (h 8 (by decide)).1
 obtain⟨y9,t9⟩:=Option.isSome_iff_exists.1 (h 9 (by decide)).1
 obtain⟨y10,t10⟩:=Option.isSome_iff_exists.1 (h 10 (by decide)).1
 obtain⟨y11,t11⟩:=Option.isSome_iff_exists.1 (h 11 (by decide)).1
 obtain⟨y12,t12⟩:=Option.isSome_iff_exists.1 (h 12 (by decide)).1
 obtain⟨y13,t13⟩:=Option.isSome_iff_exists.1 (h 13 (by decide)).1
 obtain⟨y14,t14⟩:=Option.isSome_iff_exists.1 (h 14 (by decide)).1
 exact⟨y0,y1,y2,y3,y4,y5,y6,y7,y8,y9,y10,y11,y12,y13,y14,t0,t1,t2,t3,t4,t5,t6,t7,t8,t9,t10,t11,t12,t13,t14,(h 0 (by decide)).2,(h 1 (by decide)).2,(h 2 (by decide)).2,(h 3 (by decide)).2,(h 4 (by decide)).2,(h 5 (by decide)).2,(h 6 (by decide)).2,(h 7 (by decide)).2,(h 8 (by decide)).2,(h 9 (by decide)).2,(h 10 (by decide)).2,(h 11 (by decide)).2,(h 12 (by decide)).2,(h 13 (by decide)).2,(h 14 (by decide)).2⟩
theorem setCells15 (w:World) (b o:Nat) (h:Hd) (sl:Value):w.setCells b o (h.cells sl)=((((((((((((((w.setCell ⟨b,o,none⟩ (.int .i64 h.k)).setCell ⟨b,o+1,none⟩ (.int .i64 h.o)).setCell ⟨b,o+2,none⟩ (.float .f64 h.x)).setCell ⟨b,o+3,none⟩ (.string h.s)).setCell ⟨b,o+4,none⟩ (.bool h.b)).setCell ⟨b,o+5,none⟩ (.int .i64 h.f)).setCell ⟨b,o+6,none⟩ (.int .i64 h.c1)).setCell ⟨b,o+7,none⟩ (.int .i64 h.r1)).setCell ⟨b,o+8,none⟩ (.bool h.p1)).setCell ⟨b,o+9,none⟩ (.bool h.q1)).setCell ⟨b,o+10,none⟩ (.int .i64 h.c2)).setCell ⟨b,o+11,none⟩ (.int .i64 h.r2)).setCell ⟨b,o+12,none⟩ (.bool h.p2)).setCell ⟨b,o+13,none⟩ (.bool h.q2)).setCell ⟨b,o+14,none⟩ sl:=rfl
theorem copy_some (h:Hd) (hx:h.x<18446744073709551616) (ts:List Nd) (n:Nat) (hts:ts.length=n) (hn:0<n) (hm:n<=1048576) (b o c:Nat) (F:Nat->Prop) (w:World) (hns:NdsIn w F b o ts)
  (H:Hid (∀i,(hi:i<ts.length)->∀(s1:Value) (wq:World),NdIn wq F s1 ts[i]->Calls Tryz.prog 66 #[(ts[i]).hd.val s1] wq fun e w'=>
   ∃sl' fp,e=.returned ((cpy ts[i]).hd.val sl')/\Own w' wq.heap.size sl' (cpy ts[i]) fp/\Below wq.heap.size wq w')) :
  Calls Tryz.prog 66 #[h.val (.slice (some ⟨b,o,none⟩) n c)] w fun e w'=>
   ∃sl' fp,e=.returned (({ h with x:=one h.x }:Hd).val sl')/\Own w' w.heap.size sl' (.mk { h with x:=one h.x } (cpyL ts)) fp/\Below w.heap.size w w':=by
 have H1:Hid (∀w,Calls Tryz.prog 108 #[.float .f64 h.x] w fun e w'=>e=.returned (.float .f64 (one h.x))/\w'=w):=one_any h.x hx
 generalize one h.x=y at *
 have HTS:Hid (ts.length=n):=hts
 have HNS:Hid (NdsIn w F b o ts):=hns
 have HM:Hid (n<=1048576):=hm
 have hb:Hid (b<w.heap.size):=by
  show _<_
  obtain⟨sl,hr,_⟩:=hns.get 0 (by omega)
  exact rangeAt_lt hr
 clear hns hts
 obtain⟨k,o',x,s,bb,f,c1,r1,p1,q1,c2,r2,p2,q2⟩:=h
 simp only at *
 obtain⟨cs,hcs,hmk⟩:=make_nodes n hm (((w.alloc (.cells #[.int .i64 k,.int .i64 o',.float .f64 y,.string s,.bool bb,.int .i64 f,.int .i64 c1,.int .i64 r1,.bool p1,.bool q1,.int .i64 c2,.int .i64 r2,.bool p2,.bool q2,.slice none 0 0] 48))).alloc (.cells #[.int .i64 0,.int .i64 0,.float .f64 0,.string ⟨#[]⟩,.bool false,.int .i64 0,.int .i64 0,.int .i64 0,.bool false,.bool false,.int .i64 0,.int .i64 0,.bool false,.bool false,.slice none 0 0] 48))
 have HCS:Hid (cs.size=n*15):=hcs
 clear hcs hm
 have hn':(0:Int)<(n:Int):=by omega
 go_enter Tryz.func66,Tryz.ntmps66
 go_wp2_with (go_at_call 108;refine(H1.out _).mono ?_;rintro e w' ⟨rfl,rfl⟩)
 clear hmk H1
 generalize hA:w.heap.size+1+1=A at *
 generalize hW:(((w.alloc (.cells #[.int .i64 k,.int .i64 o',.float .f64 y,.string s,.bool bb,.int .i64 f,.int .i64 c1,.int .i64 r1,.bool p1,.bool q1,.int .i64 c2,.int .i64 r2,.bool p2,.bool q2,.slice (some ⟨A,0,none⟩) n n] 48)).alloc (.cells #[.int .i64 0,.int .i64 0,.float .f64 0,.string ⟨#[]⟩,.bool false,.int .i64 0,.int .i64 0,.int .i64 0,.bool false,.bool false,.int .i64 0,.int .i64 0,.bool false,.bool false,.slice none 0 0] 48)).alloc (.cells cs 48))=W0 at *
 have HAq:Hid (w.heap.size+2=A):=hA
 have SZ:Hid (W0.heap.size=A+1):=by show _=_;rw[<- hW];simp[World.size_alloc];omega
 have B0:Hid (W0.heap[w.heap.size]? = some (.cells #[.int .i64 k,.int .i64 o',.float .f64 y,.string s,.bool bb,.int .i64 f,.int .i64 c1,.int .i64 r1,.bool p1,.bool q1,.int .i64 c2,.int .i64 r2,.bool p2,.bool q2,.slice (some ⟨A,0,none⟩) n n] 48 (0,0))):=by
  show _=_
  rw[<- hW,Below.heap_alloc _ _ _ (by simp[World.size_alloc] <;> omega),heap_alloc2_old]
 have B1:Hid (W0.heap[w.heap.size+1]? = some (.cells #[.int .i64 0,.int .i64 0,.float .f64 0,.string ⟨#[]⟩,.bool false,.int .i64 0,.int .i64 0,.int .i64 0,.bool false,.bool false,.int .i64 0,.int .i64 0,.bool false,.bool false,.slice none 0 0] 48 (0,0))):=by
  show _=_
  rw[<- hW,Below.heap_alloc _ _ _ (by simp[World.size_alloc] <;> omega),heap_alloc2_new]
 have B2:Hid (W0.heap[A]? = some (.cells cs 48 (0,0))):=by
  show _=_
  rw[<- hW,<- hA]
  have:=heap_alloc_new ((w.alloc (.cells #[.int .i64 k,.int .i64 o',.float .f64 y,.string s,.bool bb,.int .i64 f,.int .i64 c1,.int .i64 r1,.bool p1,.bool q1,.int .i64 c2,.int .i64 r2,.bool p2,.bool q2,.slice (some ⟨A,0,none⟩) n n] 48)).alloc (.cells #[.int .i64 0,.int .i64 0,.float .f64 0,.string ⟨#[]⟩,.bool false,.int .i64 0,.int .i64 0,.int .i64 0,.bool false,.bool false,.int .i64 0,.int .i64 0,.bool false,.bool false,.slice none 0 0] 48)) (.cells cs 48)
  rw[World.size_alloc,World.size_alloc] at this
  rw[hA] at this ⊢
  exact this
 have G0:Hid (Below w.heap.size w W0):=by
  show Below _ _ _
  rw[<- hW]
  exact(((Below.refl _ _).alloc (Nat.le_refl _) _).alloc (by simp[World.size_alloc]) _).alloc (by simp[World.size_alloc];omega) _
 clear hW hA
 go_loopw[22] (fun i wr=>∃(q:Nat) (fps:List Nat),q<=n/\i=.int .i64 q/\CpAt W0 wr A n q (cpyL (ts.take q)) fps) (fun i _=>n-(intOf i).toNat)
 case atStart=>
  refine⟨0,[],Nat.zero_le _,rfl,Below.refl _ _,by rw[SZ.out];omega,⟨cs,B2.out,HCS.out⟩,by simp[cpyL],by simp[cpyL,NdsOwn],List.nodup_nil,fun b hb=>by simp at hb⟩
 case round=>
  obtain⟨q,fps,hq,rfl,hcp⟩:=hrel
  have CP:Hid (CpAt W0 wr A n q (cpyL (ts.take q)) fps):=hcp
  have GW:Hid (Below w.heap.size w wr):=G0.out.trans (hcp.below.mono (by have:=HAq.out;omega))
  have D0:Hid (wr.heap[w.heap.size]? = some (.cells #[.int .i64 k,.int .i64 o',.float .f64 y,.string s,.bool bb,.int .i64 f,.int .i64 c1,.int .i64 r1,.bool p1,.bool q1,.int .i64 c2,.int .i64 r2,.bool p2,.bool q2,.slice (some ⟨A,0,none⟩) n n] 48 (0,0))):=(hcp.below.block _ (by have:=HAq.out;omega)).trans B0.out
  have D1:Hid (wr.heap[w.heap.size+1]? = _):=(hcp.below.block _ (by have:=HAq.out;omega)).trans B1.out
  clear hcp
  by_cases hlt:q<n
  ·have hqt:q<ts.length:=by rw[HTS.out];exact hlt
   obtain⟨s1,r1',n1⟩:=HNS.out.get q hqt
   have c14:wr.cell? ⟨w.heap.size,14,none⟩=some (.slice (some ⟨A,0,none⟩) n n):=cell_of_row wr _ 14 _ _ _ D0.out
   have R1:Hid (wr.rangeAt b (o+q*15) ((ts[q]).hd.cells s1)):=rangeAt_block r1' (GW.out.block b hb.out)
   have N1:Hid (∀wq,Below wr.heap.size wr wq->NdIn wq F s1 ts[q]):=fun wq hq=>n1.mono fun b hb hlt=>⟨(hq.block b (Nat.lt_of_lt_of_le hlt GW.out.size)).trans (GW.out.block b hlt),hb⟩
   have HC:Hid (∀wq,Below wr.heap.size wr wq->Calls Tryz.prog 66 #[(ts[q]).hd.val s1] wq fun e w'=>
    ∃sl' fp,e=.returned ((cpy ts[q]).hd.val sl')/\Own w' wq.heap.size sl' (cpy ts[q]) fp/\Below wq.heap.size wq w'):=fun wq hq=>H.out q hqt s1 wq (N1.out wq hq)
   have O1:Hid (s1.oneCell'=true):=n1.one
   have HT:Hid (cpyL (ts.take (q+1))=cpyL (ts.take q)++[cpy ts[q]]):=cpyL_take ts q hqt
   have HQB:Hid ((q:Int)+1<=9223372036854775807):=by show _<=_;have:=HM.out;omega
   have hq0:(0:Int)<=(q:Int):=by omega
   have hqn:(q:Int)<(n:Int):=by omega
   clear r1' n1 N1 H
   generalize cpy ts[q]=u at *
   generalize (ts[q]).hd=ha at *
   go_wp2_with (first|(refine wpList_load_mid rfl 48 (.tmp 25) rfl b (o+q*15) rfl (ha.cells s1) _ R1.out Tryz.underlying48 rfl infoNode ?_)|(refine wpList_store_new rfl 48 (.tmp 5) (.tmp 26) rfl _ _ _ _ _ (by first|rfl|simp) rfl rfl rfl infoNode (ha.one O1.out) ?_))
   go_frame
   have KS:Hid (∀w',Kc (wr.alloc (.cells (ha.cells s1).toArray 48)) (wr.heap.size+1) A w'->w'.cell? ⟨w.heap.size,14,none⟩=some (.slice (some ⟨A,0,none⟩) n n)/\w'.cell? ⟨wr.heap.size,0,none⟩=some (.int .i64 ha.k)/\w'.cell? ⟨wr.heap.size,1,none⟩=some (.int .i64 ha.o)/\w'.cell? ⟨wr.heap.size,2,none⟩=some (.float .f64 ha.x)/\w'.cell? ⟨wr.heap.size,3,none⟩=some (.string ha.s)/\w'.cell? ⟨wr.heap.size,4,none⟩=some (.bool ha.b)/\w'.cell? ⟨wr.heap.size,5,none⟩=some (.int .i64 ha.f)/\w'.cell? ⟨wr.heap.size,6,none⟩=some (.int .i64 ha.c1)/\w'.cell? ⟨wr.heap.size,7,none⟩=some (.int .i64 ha.r1)/\w'.cell? ⟨wr.heap.size,8,none⟩=some (.bool ha.p1)/\w'.cell? ⟨wr.heap.size,9,none⟩=some (.bool ha.q1)/\w'.cell? ⟨wr.heap.size,10,none⟩=some (.int .i64 ha.c2)/\w'.cell? ⟨wr.heap.size,11,none⟩=some (.int .i64 ha.r2)/\w'.cell? ⟨wr.heap.size,12,none⟩=some (.bool ha.p2)/\w'.cell? ⟨wr.heap.size,13,none⟩=some (.bool ha.q2)/\w'.cell? ⟨wr.heap.size,14,none⟩=some s1):=by
    intro w' hb'
    have hc:∀j v,((ha.cells s1).toArray)[j]? = some v->w'.cell? ⟨wr.heap.size,j,none⟩=some v:=by
     intro j v hj
     rw[hb' _ (Nat.lt_succ_self _) (by show wr.heap.size≠A;have:=CP.out.lt;omega),World.cell?_alloc_at _ _ _ _ rfl];exact hj
    exact⟨by rw[hb' _ (by show w.heap.size<_;have:=cell_lt c14;omega) (by show w.heap.size≠A;have:=HAq.out;omega),World.cell?_alloc_lt _ _ _ (cell_lt c14)];exact c14,hc 0 _ rfl,hc 1 _ rfl,hc 2 _ rfl,hc 3 _ rfl,hc 4 _ rfl,hc 5 _ rfl,hc 6 _ rfl,hc 7 _ rfl,hc 8 _ rfl,hc 9 _ rfl,hc 10 _ rfl,hc 11 _ rfl,hc 12 _ rfl,hc 13 _ rfl,hc 14 _ rfl⟩
   have ST:Hid (∀w',Below (wr.heap.size+1) (wr.alloc (.cells (ha.cells s1).toArray 48)) w'->w'.there A (q*15) 15):=by
    intro w' hb'
    obtain⟨cs',e1,e2⟩:=CP.out.row
    have hA:=CP.out.lt
    refine there_of_block (cs:=cs') (t:=48) ?_ _ _ (by omega)
    rw[hb'.block A (by omega),Below.heap_alloc _ _ _ hA];exact e1
   have hS0:=KS.out _ (Kc.below ((Below.refl _ _).drew))
   go_region_held3 (fun w'=>w'.cell? ⟨w.heap.size,14,none⟩=some (.slice (some ⟨A,0,none⟩) n n)/\w'.cell? ⟨wr.heap.size,0,none⟩=some (.int .i64 ha.k)/\w'.cell? ⟨wr.heap.size,1,none⟩=some (.int .i64 ha.o)/\w'.cell? ⟨wr.heap.size,2,none⟩=some (.float .f64 ha.x)/\w'.cell? ⟨wr.heap.size,3,none⟩=some (.string ha.s)/\w'.cell? ⟨wr.heap.size,4,none⟩=some (.bool ha.b)/\w'.cell? ⟨wr.heap.size,5,none⟩=some (.int .i64 ha.f)/\w'.cell? ⟨wr.heap.size,6,none⟩=some (.int .i64 ha.c1)/\w'.cell? ⟨wr.heap.size,7,none⟩=some (.int .i64 ha.r1)/\w'.cell? ⟨wr.heap.size,8,none⟩=some (.bool ha.p1)/\w'.cell? ⟨wr.heap.size,9,none⟩=some (.bool ha.q1)/\w'.cell? ⟨wr.heap.size,10,none⟩=some (.int .i64 ha.c2)/\w'.cell? ⟨wr.heap.size,11,none⟩=some (.int .i64 ha.r2)/\w'.cell? ⟨wr.heap.size,12,none⟩=some (.bool ha.p2)/\w'.cell? ⟨wr.heap.size,13,none⟩=some (.bool ha.q2)/\w'.cell? ⟨wr.heap.size,14,none⟩=some s1) (first|with_reducible exact hS0|with_reducible exact hS2|(rw[<- setCells15];exact KS.out _ (Kc.sets (Kc.below hbl) _ _))) (first|(go_at_call 66;refine(HC.out _ (((Below.refl _ _).alloc (Nat.le_refl _) _).drew)).mono ?_;rintro e w2 ⟨sl',fp,rfl,hown,hbw⟩;obtain⟨pp,ll,cc,rfl⟩:=ndOwn_slice hown.own;have hbl:Below (wr.heap.size+1) (wr.alloc (.cells (ha.cells s1).toArray 48)) w2:=(((Below.refl _ _).drew).trans (hbw.mono (by simp[World.size_alloc])));obtain⟨y0,y1,y2,y3,y4,y5,y6,y7,y8,y9,y10,y11,y12,y13,y14,t0,t1,t2,t3,t4,t5,t6,t7,t8,t9,t10,t11,t12,t13,t14,f0,f1,f2,f3,f4,f5,f6,f7,f8,f9,f10,f11,f12,f13,f14⟩:=there15 (ST.out _ hbl);have hS2:=KS.out _ (Kc.below hbl)))
   have GB:Hid (Below wr.heap.size wr w2):=((Below.refl _ _).alloc (Nat.le_refl _) _).trans (hbl.mono (Nat.le_succ _))
   have HO:Hid (Own w2 (wr.heap.size+1) (.slice pp ll cc) u fp):=by
    have:=hown
    rw[show ((wr.alloc (.cells (ha.cells s1).toArray 48)).drew).heap.size=wr.heap.size+1 from by simp[World.size_alloc]] at this
    exact this
   have CN:Hid (CpAt W0 (w2.setCells A (q*15) (u.hd.cells (.slice pp ll cc))) A n (q+1) (cpyL (ts.take (q+1))) (fps++fp)):=by
    show CpAt _ _ _ _ _ _ _
    rw[HT.out]
    exact CP.out.step hlt (Nat.le_succ _) GB.out HO.out
   rw[setCells15] at CN
   have hqb:=HQB.out
   clear hS0 hS2 hown hbw hbl KS ST t0 t1 t2 t3 t4 t5 t6 t7 t8 t9 t10 t11 t12 t13 t14 f0 f1 f2 f3 f4 f5 f6 f7 f8 f9 f10 f11 f12 f13 f14 c14
   go_wp2_with fail
   go_roundw
   case rel=>exact⟨q+1,fps++fp,by omega,by go_num,CN.out⟩
   case measure=>simp only[intOf];omega
  ·have hqe:q=n:=by omega
   subst hqe
   have hqn:¬((q:Int)<(q:Int)):=by omega
   have DN:Hid (Own wr A (.slice (some ⟨A,0,none⟩) q q) (.mk ⟨k,o',y,s,bb,f,c1,r1,p1,q1,c2,r2,p2,q2⟩ (cpyL ts)) (A::fps)):=by
    have:=CP.out.done hn HM.out ⟨k,o',y,s,bb,f,c1,r1,p1,q1,c2,r2,p2,q2⟩
    rw[List.take_of_length_le (by rw[HTS.out];exact Nat.le_refl _)] at this
    exact this
   have R0:Hid (wr.rangeAt w.heap.size 0 (Hd.cells ⟨k,o',y,s,bb,f,c1,r1,p1,q1,c2,r2,p2,q2⟩ (.slice (some ⟨A,0,none⟩) q q))):=by
    intro j v hj
    rw[cell_of_row wr _ _ _ _ _ D0.out,Nat.zero_add]
    simpa using hj
   have T1:Hid (wr.there (w.heap.size+1) 0 15):=there_of_block D1.out _ _ (by simp)
   have E1:Hid ((wr.setCells (w.heap.size+1) 0 (Hd.cells ⟨k,o',y,s,bb,f,c1,r1,p1,q1,c2,r2,p2,q2⟩ (.slice (some ⟨A,0,none⟩) q q))).heap[w.heap.size+1]? = some (.cells (Hd.cells ⟨k,o',y,s,bb,f,c1,r1,p1,q1,c2,r2,p2,q2⟩ (.slice (some ⟨A,0,none⟩) q q)).toArray 48 (0,0))):=
    heap_setCells_whole (cs:=(Hd.cells ⟨k,o',y,s,bb,f,c1,r1,p1,q1,c2,r2,p2,q2⟩ (.slice (some ⟨A,0,none⟩) q q)).toArray) D1.out (by simp)
   have OW:Hid (Own (wr.setCells (w.heap.size+1) 0 (Hd.cells ⟨k,o',y,s,bb,f,c1,r1,p1,q1,c2,r2,p2,q2⟩ (.slice (some ⟨A,0,none⟩) q q))) w.heap.size (.slice (some ⟨A,0,none⟩) q q) (.mk ⟨k,o',y,s,bb,f,c1,r1,p1,q1,c2,r2,p2,q2⟩ (cpyL ts)) (A::fps)):=by
    have hA:=HAq.out
    refine⟨DN.out.own.mono (fun b hb=>heap_setCells_ne (by have:=(DN.out.new b hb).1;omega) _ _ _),DN.out.nodup,fun b hb=>?_⟩
    rw[size_setCells]
    exact⟨by have:=(DN.out.new b hb).1;omega,(DN.out.new b hb).2⟩
   have BW:Hid (Below w.heap.size w (wr.setCells (w.heap.size+1) 0 (Hd.cells ⟨k,o',y,s,bb,f,c1,r1,p1,q1,c2,r2,p2,q2⟩ (.slice (some ⟨A,0,none⟩) q q)))):=setCells_below GW.out (Nat.le_succ _) _ _
   clear H CP HNS D0 D1 B0 B1 B2 DN G0 GW
   go_wp2_with (first|(refine wpList_load_mid rfl 48 (.tmp 1) rfl w.heap.size 0 rfl (Hd.cells ⟨k,o',y,s,bb,f,c1,r1,p1,q1,c2,r2,p2,q2⟩ (.slice (some ⟨A,0,none⟩) q q)) _ R0.out Tryz.underlying48 rfl infoNode ?_)|(refine wpList_store_mid rfl 48 (.tmp 2) (.tmp 34) rfl (w.heap.size+1) 0 _ rfl rfl T1.out infoNode (Hd.one ⟨k,o',y,s,bb,f,c1,r1,p1,q1,c2,r2,p2,q2⟩ rfl) ?_))
   refine bodyPost_ret (results_cell_row rfl _ _ (w.heap.size+1) 48 _ (0,0) _ rfl E1.out Tryz.underlying48 rfl infoNode) rfl ?_
   exact⟨_,rfl,⟨_,OW.out⟩,BW.out⟩
theorem copy_any (N:Nat):∀(t:Nd) (sl:Value) (F:Nat->Prop) (w:World),t.size<=N->t.size<=1048576->t.ok->NdIn w F sl t ->
  Calls Tryz.prog 66 #[t.hd.val sl] w fun e w'=>∃sl' fp,e=.returned ((cpy t).hd.val sl')/\Own w' w.heap.size sl' (cpy t) fp/\Below w.heap.size w w':=by
 induction N with
 | zero=>intro t sl F w h;have:=size_pos t;omega
 | succ N ih=>
  intro t sl F w hN hm hok hin
  obtain⟨h,ts⟩:=t
  rw[NdIn] at hin
  obtain⟨a,c,rfl,_,_,h4⟩:=hin
  have hsz:(Nd.mk h ts).size=1+sizeL ts:=by rw[Nd.size]
  have hln:=length_sizeL ts
  rw[cpy]
  by_cases hz:ts=[]
  ·subst hz
   refine(copy_none h hok.x a c w).mono ?_
   rintro e w' ⟨rfl,hb⟩
   exact⟨.slice none 0 0,[],rfl,⟨by rw[cpyL,NdOwn];exact .inl ⟨rfl,rfl,rfl⟩,List.nodup_nil,fun b hb=>by simp at hb⟩,hb⟩
  ·obtain⟨b,o,rfl,_,hns⟩:∃b o,a=some ⟨b,o,none⟩/\F b/\NdsIn w F b o ts:=by
    rcases h4 with q|q
    ·exact absurd q.1 hz
    ·exact q
   have hp:0<ts.length:=List.length_pos_iff.2 hz
   refine copy_some h hok.x ts ts.length rfl hp (by omega) b o c F w hns ?_
   intro i hi s1 wq hq
   have h1:=size_get ts i hi
   exact ih _ s1 F wq (by omega) (by omega) (hok.l.get i hi) hq
theorem copy_at (t:Nd) (sl:Value) (F:Nat->Prop) (w:World) (hm:t.size<=1048576) (hok:t.ok) (hin:NdIn w F sl t) :
  Calls Tryz.prog 66 #[t.hd.val sl] w fun e w'=>∃sl' fp,e=.returned ((cpy t).hd.val sl')/\Own w' w.heap.size sl' (cpy t) fp/\Below w.heap.size w w':=
 copy_any t.size t sl F w (Nat.le_refl _) hm hok hin
def zHd:Hd:=⟨0,0,0,⟨#[]⟩,false,0,0,0,false,false,0,0,false,false⟩
def zNd:Nd:=.mk zHd []
theorem zNd_ok:zNd.ok:=by unfold zNd;rw[Nd.ok,okL];exact⟨by decide,trivial⟩
theorem zNd_in (w:World) (F:Nat->Prop):NdIn w F (.slice none 0 0) zNd:=by
 unfold zNd;rw[NdIn];exact⟨none,0,rfl,by simp,by unfold maxLen;omega,.inl ⟨rfl,.inl rfl⟩⟩
def zeroN (t:Nd):Bool:=tsame t zNd
theorem isZeroNode_at (t:Nd) (sl:Value) (F:Nat->Prop) (w:World) (hok:t.ok) (hin:NdIn w F sl t) :
  Calls Tryz.prog 84 #[t.hd.val sl] w fun e w'=>e=.returned (.bool (zeroN t))/\Gr w w':=by
 have H1:Hid (∀wq,Gr w wq->Calls Tryz.prog 60 #[t.hd.val sl,.agg #[.int .i64 0,.int .i64 0,.float .f64 0,.string ⟨#[]⟩,.bool false,.int .i64 0,.int .i64 0,.int .i64 0,.bool false,.bool false,.int .i64 0,.int .i64 0,.bool false,.bool false,.slice none 0 0]] wq fun e w'=>e=.returned (.bool (zeroN t))/\Gr wq w'):=
  fun wq hq=>tsame_at t zNd sl (.slice none 0 0) F F wq hok zNd_ok (hin.gr hq) (zNd_in wq F)
 generalize zeroN t=V at *
 generalize t.hd=h at *
 clear hin hok
 go_enter Tryz.func84,Tryz.ntmps84
 go_wp2_with fail
 refine(H1.out _ ((Gr.refl _).alloc _ _)).mono ?_
 rintro e w1 ⟨rfl,hg1⟩
 have G1:Hid (Gr w w1):=((Gr.refl _).alloc _ _).trans hg1
 clear hg1 H1
 go_wp2_with fail
 go_ret
 exact⟨rfl,G1.out⟩
def validC (c:Ct) (u:Bool) (e:Int):Bool:=(c.k==0&&(zeroV c.v&&zeroN c.t))||(c.k==1&&(c.v.k != 0&&validV c.v u&&zeroN c.t))||(c.k==2&&(zeroV c.v&&e==0))
def cpC (c:Ct):Ct:=⟨c.k,{ c.v with x:=one c.v.x },cpy c.t⟩
theorem infoContent:(Tryz.prog.info? 50).map (·.size)=some 21:=by kernel_rfl
theorem Ct.one (c:Ct) {sl:Value} (hs:sl.oneCell'=true):(#[.int .i64 c.k,.int .i64 c.v.k,.float .f64 c.v.x,.string c.v.s,.bool c.v.b,.int .i64 c.v.f,
 .int .i64 c.t.hd.k,.int .i64 c.t.hd.o,.float .f64 c.t.hd.x,.string c.t.hd.s,.bool c.t.hd.b,.int .i64 c.t.hd.f,.int .i64 c.t.hd.c1,.int .i64 c.t.hd.r1,.bool c.t.hd.p1,.bool c.t.hd.q1,.int .i64 c.t.hd.c2,.int .i64 c.t.hd.r2,.bool c.t.hd.p2,.bool c.t.hd.q2,sl]:Array Value).all (·.oneCell')=true:=by
 simpa [Value.oneCell'] using hs
theorem rangeAt_mid {w:World} {b:Nat} {pre l post:List Value} {t:TypeId} {fr:Nat×Nat} (hb:w.heap[b]? = some (.cells (pre++l++post).toArray t fr)):w.rangeAt b pre.length l:=by
 intro j v hj
 rw[cell_of_row w b _ _ _ _ hb]
 have hlt:j<l.length:=(List.getElem?_eq_some_iff.1 hj).1
 simp only[List.getElem?_toArray]
 rw[List.append_assoc,List.getElem?_append_right (by omega),Nat.add_sub_cancel_left,List.getElem?_append_left hlt]
 exact hj
theorem setAll_mid (pre old new post:List Value) (h:old.length=new.length):setAll (pre++old++post).toArray pre.length new=(pre++new++post).toArray:=by
 apply Array.ext_getElem?
 intro i
 rw[setAll_get _ _ _ _ (by simp;omega)]
 simp only[List.getElem?_toArray]
 by_cases h1:pre.length<=i/\i<pre.length+new.length
 ·rw[if_pos h1,List.append_assoc,List.getElem?_append_right h1.1,List.getElem?_append_left (by omega)]
 ·rw[if_neg h1]
  by_cases h2:i<pre.length
  ·rw[List.append_assoc,List.append_assoc,List.getElem?_append_left h2,List.getElem?_append_left h2]
  ·rw[List.getElem?_append_right (by simp;omega),List.getElem?_append_right (by simp;omega),List.length_append,List.length_append,h]
theorem heap_setCells_mid {w:World} {b:Nat} {pre old new post:List Value} {t:TypeId} (h:old.length=new.length) (hb:w.heap[b]? = some (.cells (pre++old++post).toArray t (0,0))) :
  (w.setCells b pre.length new).heap[b]? = some (.cells (pre++new++post).toArray t (0,0)):=by
 rw[heap_setCells_at _ _ _ _ hb,setAll_mid _ _ _ _ h]
theorem wpList_store_to {P:Program} {ops:Array Oper} {rest:List Oper} {op:Oper} {a:Act} {w:World} {Q:Exit->Act->World->Prop} (hgd:op.guard=none) (ty:TypeId) (x y:Operand) (ho:op.op=.store ty x y)
  (b o:Nat) (cells:Array Value) (hx:a.eval x=.pointer (some ⟨b,o,none⟩)) (hy:a.eval y=.agg cells)
  (ht:w.there b o cells.size) (hi:(P.info? ty).map (·.size)=some cells.size) (h1:cells.all (·.oneCell')=true) (W3:World) (hW:w.setCells b o cells.toList=W3)
  (h:wpList P ops Q rest (a.put op.dst undef) W3):wpList P ops Q (op::rest) a w:=
 wpList_store_mid hgd ty x y ho b o cells hx hy ht hi h1 (by rw[hW];exact h)
@[go_sem] theorem field_x (a c d f:Value) (y:Nat) (w:World):(Instr.field 43 (.agg #[a,.float .f64 y,c,d,f]) 1).run Tryz.prog w=.ok (.float .f64 y) w:=by
 unfold Instr.field
 rw[Sem.run_bind,run_underlying Tryz.underlying43 w]
 simp[part,asAgg,isAgg,run_underlying Tryz.underlying41 w,Sem.run_bind]
theorem gCopy_at (c:Ct) (sl:Value) (F:Nat->Prop) (w:World) (hx:c.v.x<18446744073709551616) (hm:c.t.size<=1048576) (hok:c.t.ok) (hin:NdIn w F sl c.t) :
  Calls Tryz.prog 47 #[c.val sl] w fun e w'=>∃sl' fp,e=.returned ((cpC c).val sl')/\Own w' w.heap.size sl' (cpC c).t fp/\Below w.heap.size w w':=by
 have H1:Hid (∀w,Calls Tryz.prog 87 #[.float .f64 c.v.x] w fun e w'=>e=.returned (.agg #[.int .i64 1,.float .f64 (Go.Proofs.YtecjfnkakodebaaGreatDoor.one c.v.x),.string ⟨#[]⟩,.bool false,.int .i64 0])/\Gr w w'):=ofNumber_at c.v.x hx
 have H2:Hid (∀wq,Below w.heap.size w wq->Calls Tryz.prog 66 #[c.t.hd.val sl] wq fun e w'=>∃sl' fp,e=.returned ((cpy c.t).hd.val sl')/\Own w' wq.heap.size sl' (cpy c.t) fp/\Below wq.heap.size wq w'):=
  fun wq hq=>copy_at c.t sl F wq hm hok (hin.mono fun b hb hlt=>⟨hq.block b hlt,hb⟩)
 obtain⟨k,⟨vk,vx,vs,vb,vf⟩,t⟩:=c
 unfold cpC
 simp only at *
 generalize Go.Proofs.YtecjfnkakodebaaGreatDoor.one vx=y at *
 generalize cpy t=u at *
 clear hin hok hx hm
 go_enter Tryz.func47,Tryz.ntmps47
 go_wp2_with fail
 refine(H1.out _).mono ?_
 rintro e w1 ⟨rfl,hg1⟩
 have B0:Hid (w1.heap[w.heap.size]? = some (.cells #[.int .i64 k,.int .i64 vk,.float .f64 vx,.string vs,.bool vb,.int .i64 vf,.int .i64 t.hd.k,.int .i64 t.hd.o,.float .f64 t.hd.x,.string t.hd.s,.bool t.hd.b,.int .i64 t.hd.f,.int .i64 t.hd.c1,.int .i64 t.hd.r1,.bool t.hd.p1,.bool t.hd.q1,.int .i64 t.hd.c2,.int .i64 t.hd.r2,.bool t.hd.p2,.bool t.hd.q2,sl] 50 (0,0))):=by
  show _=_
  rw[hg1.ext.block _ (by simp[World.size_alloc] <;> omega),heap_alloc2_old]
 have B1:Hid (w1.heap[w.heap.size+1]? = some (.cells #[.int .i64 0,.int .i64 0,.float .f64 0,.string ⟨#[]⟩,.bool false,.int .i64 0,.int .i64 0,.int .i64 0,.float .f64 0,.string ⟨#[]⟩,.bool false,.int .i64 0,.int .i64 0,.int .i64 0,.bool false,.bool false,.int .i64 0,.int .i64 0,.bool false,.bool false,.slice none 0 0] 50 (0,0))):=by
  show _=_
  rw[hg1.ext.block _ (by simp[World.size_alloc]),heap_alloc2_new]
 have GW:Hid (Below w.heap.size w w1):=(((Below.refl _ _).alloc (Nat.le_refl _) _).alloc (by simp[World.size_alloc]) _).trans ((gr_below hg1).mono (by simp[World.size_alloc];omega))
 clear hg1 H1
 have D0:Hid ((w1.setCell ⟨w.heap.size,2,none⟩ (.float .f64 y)).heap[w.heap.size]? = some (.cells #[.int .i64 k,.int .i64 vk,.float .f64 y,.string vs,.bool vb,.int .i64 vf,.int .i64 t.hd.k,.int .i64 t.hd.o,.float .f64 t.hd.x,.string t.hd.s,.bool t.hd.b,.int .i64 t.hd.f,.int .i64 t.hd.c1,.int .i64 t.hd.r1,.bool t.hd.p1,.bool t.hd.q1,.int .i64 t.hd.c2,.int .i64 t.hd.r2,.bool t.hd.p2,.bool t.hd.q2,sl] 50 (0,0))):=by
  show _=_
  rw[heap_setCell_same w1 _ 2 _ _ _ B0.out]
  rfl
 have D1:Hid ((w1.setCell ⟨w.heap.size,2,none⟩ (.float .f64 y)).heap[w.heap.size+1]? = some (.cells #[.int .i64 0,.int .i64 0,.float .f64 0,.string ⟨#[]⟩,.bool false,.int .i64 0,.int .i64 0,.int .i64 0,.float .f64 0,.string ⟨#[]⟩,.bool false,.int .i64 0,.int .i64 0,.int .i64 0,.bool false,.bool false,.int .i64 0,.int .i64 0,.bool false,.bool false,.slice none 0 0] 50 (0,0))):=(heap_setCell_other w1 _ _ _ (by simp)).trans B1.out
 have GW1:Hid (Below w.heap.size w (w1.setCell ⟨w.heap.size,2,none⟩ (.float .f64 y))):=GW.out.setCell (Nat.le_refl _) _
 have c2:w1.cell? ⟨w.heap.size,2,none⟩=some (.float .f64 vx):=cell_of_row w1 _ 2 _ _ _ B0.out
 have f2:w1.frozen? ⟨w.heap.size,2,none⟩=false:=frozen_of_row w1 _ 2 _ _ B0.out
 have RF:Hid ((w1.setCell ⟨w.heap.size,2,none⟩ (.float .f64 y)).rangeAt w.heap.size 6 (t.hd.cells sl)):=rangeAt_mid (pre:=[.int .i64 k,.int .i64 vk,.float .f64 y,.string vs,.bool vb,.int .i64 vf]) (l:=t.hd.cells sl) (post:=[]) D0.out
 clear B0 B1 GW
 go_wp2_with (refine wpList_load_mid rfl 48 (.tmp 10) rfl w.heap.size 6 rfl (t.hd.cells sl) _ RF.out Tryz.underlying48 rfl infoNode ?_)
 refine(H2.out _ GW1.out).mono ?_
 rintro e w2 ⟨sl',fp,rfl,hown,hbw⟩
 have hsz:w.heap.size+1<(w1.setCell ⟨w.heap.size,2,none⟩ (.float .f64 y)).heap.size:=(Array.getElem?_eq_some_iff.1 D1.out).1
 have E0:Hid (w2.heap[w.heap.size]? = some (.cells #[.int .i64 k,.int .i64 vk,.float .f64 y,.string vs,.bool vb,.int .i64 vf,.int .i64 t.hd.k,.int .i64 t.hd.o,.float .f64 t.hd.x,.string t.hd.s,.bool t.hd.b,.int .i64 t.hd.f,.int .i64 t.hd.c1,.int .i64 t.hd.r1,.bool t.hd.p1,.bool t.hd.q1,.int .i64 t.hd.c2,.int .i64 t.hd.r2,.bool t.hd.p2,.bool t.hd.q2,sl] 50 (0,0))):=(hbw.block _ (by omega)).trans D0.out
 have E1:Hid (w2.heap[w.heap.size+1]? = some (.cells #[.int .i64 0,.int .i64 0,.float .f64 0,.string ⟨#[]⟩,.bool false,.int .i64 0,.int .i64 0,.int .i64 0,.float .f64 0,.string ⟨#[]⟩,.bool false,.int .i64 0,.int .i64 0,.int .i64 0,.bool false,.bool false,.int .i64 0,.int .i64 0,.bool false,.bool false,.slice none 0 0] 50 (0,0))):=(hbw.block _ hsz).trans D1.out
 have O1:Hid (sl'.oneCell'=true):=hown.own.one
 have F0:Hid ((w2.setCells w.heap.size 6 (u.hd.cells sl')).heap[w.heap.size]? = some (.cells #[.int .i64 k,.int .i64 vk,.float .f64 y,.string vs,.bool vb,.int .i64 vf,.int .i64 u.hd.k,.int .i64 u.hd.o,.float .f64 u.hd.x,.string u.hd.s,.bool u.hd.b,.int .i64 u.hd.f,.int .i64 u.hd.c1,.int .i64 u.hd.r1,.bool u.hd.p1,.bool u.hd.q1,.int .i64 u.hd.c2,.int .i64 u.hd.r2,.bool u.hd.p2,.bool u.hd.q2,sl'] 50 (0,0))):=heap_setCells_mid (pre:=[.int .i64 k,.int .i64 vk,.float .f64 y,.string vs,.bool vb,.int .i64 vf]) (old:=t.hd.cells sl) (new:=u.hd.cells sl') (post:=[]) rfl E0.out
 have F1:Hid ((w2.setCells w.heap.size 6 (u.hd.cells sl')).heap[w.heap.size+1]? = some (.cells #[.int .i64 0,.int .i64 0,.float .f64 0,.string ⟨#[]⟩,.bool false,.int .i64 0,.int .i64 0,.int .i64 0,.float .f64 0,.string ⟨#[]⟩,.bool false,.int .i64 0,.int .i64 0,.int .i64 0,.bool false,.bool false,.int .i64 0,.int .i64 0,.bool false,.bool false,.slice none 0 0] 50 (0,0))):=(heap_setCells_ne (by omega) _ _ _).trans E1.out
 have T0:Hid (w2.there w.heap.size 6 15):=there_of_block E0.out _ _ (by simp)
 obtain⟨W3,hW3⟩:∃W3,w2.setCells w.heap.size 6 (u.hd.cells sl')=W3:=⟨_,rfl⟩
 have HW3:Hid (w2.setCells w.heap.size 6 (u.hd.cells sl')=W3):=hW3
 rw[hW3] at F0 F1
 have RC:Hid (W3.rangeAt w.heap.size 0 [.int .i64 k,.int .i64 vk,.float .f64 y,.string vs,.bool vb,.int .i64 vf,.int .i64 u.hd.k,.int .i64 u.hd.o,.float .f64 u.hd.x,.string u.hd.s,.bool u.hd.b,.int .i64 u.hd.f,.int .i64 u.hd.c1,.int .i64 u.hd.r1,.bool u.hd.p1,.bool u.hd.q1,.int .i64 u.hd.c2,.int .i64 u.hd.r2,.bool u.hd.p2,.bool u.hd.q2,sl']):=rangeAt_mid (pre:=[]) (post:=[]) F0.out
 have T1:Hid (W3.there (w.heap.size+1) 0 21):=there_of_block F1.out _ _ (by simp)
 have L1:Hid ((W3.setCells (w.heap.size+1) 0 [.int .i64 k,.int .i64 vk,.float .f64 y,.string vs,.bool vb,.int .i64 vf,.int .i64 u.hd.k,.int .i64 u.hd.o,.float .f64 u.hd.x,.string u.hd.s,.bool u.hd.b,.int .i64 u.hd.f,.int .i64 u.hd.c1,.int .i64 u.hd.r1,.bool u.hd.p1,.bool u.hd.q1,.int .i64 u.hd.c2,.int .i64 u.hd.r2,.bool u.hd.p2,.bool u.hd.q2,sl']).heap[w.heap.size+1]? = some (.cells #[.int .i64 k,.int .i64 vk,.float .f64 y,.string vs,.bool vb,.int .i64 vf,.int .i64 u.hd.k,.int .i64 u.hd.o,.float .f64 u.hd.x,.string u.hd.s,.bool u.hd.b,.int .i64 u.hd.f,.int .i64 u.hd.c1,.int .i64 u.hd.r1,.bool u.hd.p1,.bool u.hd.q1,.int .i64 u.hd.c2,.int .i64 u.hd.r2,.bool u.hd.p2,.bool u.hd.q2,sl'] 50 (0,0))):=heap_setCells_whole (cs:=#[.int .i64 k,.int .i64 vk,.float .f64 y,.string vs,.bool vb,.int .i64 vf,.int .i64 u.hd.k,.int .i64 u.hd.o,.float .f64 u.hd.x,.string u.hd.s,.bool u.hd.b,.int .i64 u.hd.f,.int .i64 u.hd.c1,.int .i64 u.hd.r1,.bool u.hd.p1,.bool u.hd.q1,.int .i64 u.hd.c2,.int .i64 u.hd.r2,.bool u.hd.p2,.bool u.hd.q2,sl']) F1.out (by simp)
 have OW:Hid (Own (W3.setCells (w.heap.size+1) 0 [.int .i64 k,.int .i64 vk,.float .f64 y,.string vs,.bool vb,.int .i64 vf,.int .i64 u.hd.k,.int .i64 u.hd.o,.float .f64 u.hd.x,.string u.hd.s,.bool u.hd.b,.int .i64 u.hd.f,.int .i64 u.hd.c1,.int .i64 u.hd.r1,.bool u.hd.p1,.bool u.hd.q1,.int .i64 u.hd.c2,.int .i64 u.hd.r2,.bool u.hd.p2,.bool u.hd.q2,sl']) w.heap.size sl' u fp):=by
  refine⟨hown.own.mono (fun b hb=>?_),hown.nodup,fun b hb=>?_⟩
  ·have:=(hown.new b hb).1
   rw[heap_setCells_ne (by omega),<- hW3,heap_setCells_ne (by omega)]
  ·rw[size_setCells,<- hW3,size_setCells]
   exact⟨by have:=(hown.new b hb).1;omega,(hown.new b hb).2⟩
 have BW:Hid (Below w.heap.size w (W3.setCells (w.heap.size+1) 0 [.int .i64 k,.int .i64 vk,.float .f64 y,.string vs,.bool vb,.int .i64 vf,.int .i64 u.hd.k,.int .i64 u.hd.o,.float .f64 u.hd.x,.string u.hd.s,.bool u.hd.b,.int .i64 u.hd.f,.int .i64 u.hd.c1,.int .i64 u.hd.r1,.bool u.hd.p1,.bool u.hd.q1,.int .i64 u.hd.c2,.int .i64 u.hd.r2,.bool u.hd.p2,.bool u.hd.q2,sl'])):=
  setCells_below (hW3 ▸ setCells_below (GW1.out.trans (hbw.mono (by omega))) (Nat.le_refl _) _ _) (Nat.le_succ _) _ _
 clear hW3 hown hbw H2 D0 D1 GW1 c2 f2 RF E0 E1 F0 F1 hsz
 go_wp2_with (first|(refine wpList_store_to rfl 48 (.tmp 13) (.tmp 12) rfl w.heap.size 6 _ rfl rfl T0.out infoNode (u.hd.one O1.out) W3 HW3.out ?_)|(refine wpList_load_mid rfl 50 (.tmp 1) rfl w.heap.size 0 rfl [.int .i64 k,.int .i64 vk,.float .f64 y,.string vs,.bool vb,.int .i64 vf,.int .i64 u.hd.k,.int .i64 u.hd.o,.float .f64 u.hd.x,.string u.hd.s,.bool u.hd.b,.int .i64 u.hd.f,.int .i64 u.hd.c1,.int .i64 u.hd.r1,.bool u.hd.p1,.bool u.hd.q1,.int .i64 u.hd.c2,.int .i64 u.hd.r2,.bool u.hd.p2,.bool u.hd.q2,sl'] _ RC.out Tryz.underlying50 rfl infoContent ?_)|(refine wpList_store_mid rfl 50 (.tmp 2) (.tmp 14) rfl (w.heap.size+1) 0 _ rfl rfl T1.out infoContent (Ct.one ⟨k,⟨vk,y,vs,vb,vf⟩,u⟩ O1.out) ?_))
 refine bodyPost_ret (results_cell_row rfl _ _ (w.heap.size+1) 50 _ (0,0) _ rfl L1.out Tryz.underlying50 rfl infoContent) rfl ?_
 exact⟨_,_,rfl,OW.out,BW.out⟩
end Go.Proofs.YtecjfnkakodebaaGreatDoor
