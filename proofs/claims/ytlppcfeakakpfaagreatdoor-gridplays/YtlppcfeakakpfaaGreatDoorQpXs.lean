/- sameFields: two nodes alike but for their lists. Same: two trees of nodes alike (slices.EqualFunc and Same call each other). Copy: a tree of nodes in new memory. Copy: the walk. Copy: a node with nodes below it; any tree. Stores into a block: whole, or a part of it. No function of the program here. Copy of a node with nodes below it: the walk. A list of nodes that a function makes by append, round by round. No function of the program here. -/
import Derived.Test.YtlppcfeakakpfaaGreatDoorQpWa
import Derived.Test.YtlppcfeakakpfaaGreatDoorQpXk
import Derived.Deep.RegionHeld3
import Derived.Deep.MidRow
set_option maxRecDepth 20000
set_option maxHeartbeats 8000000
namespace Go.Proofs.YtlppcfeakakpfaaGreatDoor
open Go.RowKit
theorem eql_ref (a b c d:Int) (p q s t:Bool) (T:Bool) (hT:(a == c && b == d && p == s && q == t)=T) (w:World):(binOp .eql 41 (.agg #[.int .i64 a,.int .i64 b,.bool p,.bool q]) (.agg #[.int .i64 c,.int .i64 d,.bool s,.bool t])).run Tryz.prog w=.ok (.bool T) w:=by
 subst hT
 by_cases h1:a=c
 ·subst h1
  by_cases h2:b=d
  ·subst h2
   cases p <;> cases q <;> cases s <;> cases t <;> simp [go_sem]
  ·have h2':(b == d)=false:=by simpa using h2
   simp [go_sem,h2']
 ·have h1':(a == c)=false:=by simpa using h1
  simp [go_sem,h1']
def hsame (h g:Hd):Bool:=h.k == g.k && h.o == g.o && fsame h.x g.x && decide (h.s.toList=g.s.toList) && h.b == g.b && h.f == g.f &&
 (h.c1 == g.c1 && h.r1 == g.r1 && h.p1 == g.p1 && h.q1 == g.q1) && (h.c2 == g.c2 && h.r2 == g.r2 && h.p2 == g.p2 && h.q2 == g.q2)
theorem sameFields_at (h g:Hd) (hx:h.x < 18446744073709551616) (gx:g.x < 18446744073709551616) (sl sg:Value) (w:World) :
  Calls Tryz.prog 95 #[h.val sl,g.val sg] w fun e w'=>e=.returned (.bool (hsame h g))∧Gr w w':=by
 have H1:Hid (∀ w,Calls Tryz.prog 114 #[.float .f64 h.x,.float .f64 g.x] w fun e w'=>e=.returned (.bool (fsame h.x g.x))∧w'=w):=fsame_any h.x g.x hx gx
 have e1:=eql_ref h.c1 h.r1 g.c1 g.r1 h.p1 h.q1 g.p1 g.q1 _ rfl
 have e2:=eql_ref h.c2 h.r2 g.c2 g.r2 h.p2 h.q2 g.p2 g.q2 _ rfl
 have hV:Hid (hsame h g=(h.k == g.k && h.o == g.o && fsame h.x g.x && decide (h.s.toList=g.s.toList) && h.b == g.b && h.f == g.f &&
  (h.c1 == g.c1 && h.r1 == g.r1 && h.p1 == g.p1 && h.q1 == g.q1) && (h.c2 == g.c2 && h.r2 == g.r2 && h.p2 == g.p2 && h.q2 == g.q2))):=rfl
 have G0:Hid (∀ a b t u,Gr w ((w.alloc (.cells a t)).alloc (.cells b u))):=fun a b t u=>((Gr.refl w).alloc _ _).alloc _ _
 generalize hsame h g=V at *
 generalize fsame h.x g.x=fs at *
 generalize (h.c1 == g.c1 && h.r1 == g.r1 && h.p1 == g.p1 && h.q1 == g.q1)=b1 at *
 generalize (h.c2 == g.c2 && h.r2 == g.r2 && h.p2 == g.p2 && h.q2 == g.q2)=b2 at *
 clear hx gx
 obtain ⟨k,o,x,s,b,f,c1,r1,p1,q1,c2,r2,p2,q2⟩:=h
 obtain ⟨k',o',x',s',b',f',c1',r1',p1',q1',c2',r2',p2',q2'⟩:=g
 simp only at *
 go_enter Tryz.func95,Tryz.ntmps95
 go_wp2_with (go_at_call 114;refine (H1.out _).mono ?_;rintro e w' ⟨rfl,rfl⟩)
 all_goals
  go_ret
  refine ⟨rBool ?_,G0.out _ _ _ _⟩
  rw [hV.out]
  clear H1 hV G0 e1 e2
  simp_all
mutual
def Nd.ok:Nd→Prop
 | .mk h ts=>h.x < 18446744073709551616∧okL ts
def okL:List Nd→Prop
 | []=>True
 | t :: ts=>t.ok∧okL ts
end
theorem okL.get:∀ {ts:List Nd},okL ts→∀ i,(h:i < ts.length)→(ts[i]).ok
 | [],_,i,h=>absurd h (by simp)
 | t :: ts,hk,i,h=>by
  rw [okL] at hk
  cases i with
  | zero=>exact hk.1
  | succ i=>exact okL.get hk.2 i (by simpa using h)
theorem Nd.ok.x {t:Nd} (h:t.ok):t.hd.x < 18446744073709551616:=by cases t;rw [Nd.ok] at h;exact h.1
theorem Nd.ok.l {t:Nd} (h:t.ok):okL t.ts:=by cases t;rw [Nd.ok] at h;exact h.2
mutual
def tsame:Nd→Nd→Bool
 | .mk h ts,.mk g us=>hsame h g && lsame ts us
def lsame:List Nd→List Nd→Bool
 | [],[]=>true
 | t :: ts,u :: us=>tsame t u && lsame ts us
 | [],_ :: _=>false
 | _ :: _,[]=>false
end
theorem lsame_len:∀ (ts us:List Nd),ts.length≠us.length→lsame ts us=false
 | [],[],h=>absurd rfl h
 | [],_ :: _,_=>by rw [lsame]
 | _ :: _,[],_=>by rw [lsame]
 | t :: ts,u :: us,h=>by rw [lsame,lsame_len ts us (by simpa using h),Bool.and_false]
theorem lsame_take:∀ (ts us:List Nd) (k:Nat),(hk:k < ts.length)→(hu:k < us.length)→lsame (ts.take (k+1)) (us.take (k+1))=(lsame (ts.take k) (us.take k) && tsame ts[k] us[k])
 | [],_,k,hk,_=>absurd hk (by simp)
 | _ :: _,[],k,_,hu=>absurd hu (by simp)
 | t :: ts,u :: us,0,_,_=>by simp [lsame]
 | t :: ts,u :: us,k+1,hk,hu=>by
  have:=lsame_take ts us k (by simpa using hk) (by simpa using hu)
  rw [List.take_succ_cons,List.take_succ_cons,lsame,this,List.take_succ_cons,List.take_succ_cons,lsame,Bool.and_assoc]
  simp
theorem lsame_stop:∀ (ts us:List Nd) (k:Nat),ts.length=us.length→lsame (ts.take k) (us.take k)=false→lsame ts us=false
 | [],[],k,_,h=>by simp [lsame] at h
 | [],_ :: _,_,e,_=>by simp at e
 | _ :: _,[],_,e,_=>by simp at e
 | t :: ts,u :: us,0,_,h=>by simp [lsame] at h
 | t :: ts,u :: us,k+1,e,h=>by
  rw [List.take_succ_cons,List.take_succ_cons,lsame] at h
  rw [lsame]
  by_cases ht:tsame t u=true
  ·rw [ht,Bool.true_and] at h ⊢
   exact lsame_stop ts us k (by simpa using e) h
  ·rw [Bool.not_eq_true] at ht;rw [ht,Bool.false_and]
theorem equalFunc_of (ts us:List Nd) (h g:Hd) (sl sg:Value) (F G:Nat→Prop) (w:World) (hin:NdIn w F sl (.mk h ts)) (gin:NdIn w G sg (.mk g us))
  (H:Hid (∀ i,(hi:i < ts.length)→(gi:i < us.length)→∀ (s1 s2:Value) (wq:World),Gr w wq→NdIn wq F s1 ts[i]→NdIn wq G s2 us[i] →
   Calls Tryz.prog 70 #[(ts[i]).hd.val s1,(us[i]).hd.val s2] wq fun e w'=>e=.returned (.bool (tsame ts[i] us[i]))∧Gr wq w')) :
  Calls Tryz.prog 96 #[sl,sg,.func (.func 70) #[] #[]] w fun e w'=>e=.returned (.bool (lsame ts us))∧Gr w w':=by
 rw [NdIn] at hin gin
 obtain ⟨a,c,rfl,_,hc,h4⟩:=hin
 obtain ⟨b,d,rfl,_,hd,g4⟩:=gin
 have HL:Hid (ts.length≤9223372036854775807):=by show _≤_;unfold maxLen at hc;omega
 have H4:Hid ((ts=[]∧(c=0∨a≠none))∨∃ b o,a=some ⟨b,o,none⟩∧F b∧NdsIn w F b o ts):=h4
 have G4:Hid ((us=[]∧(d=0∨b≠none))∨∃ b' o,b=some ⟨b',o,none⟩∧G b'∧NdsIn w G b' o us):=g4
 clear h4 g4 hc hd
 by_cases he:ts.length=us.length
 ·obtain ⟨n,hn⟩:∃ n,ts.length=n:=⟨_,rfl⟩
  have H1:Hid (ts.length=n):=hn
  have H2:Hid (us.length=n):=he.symm.trans hn
  rw [← he,hn]
  rw [hn] at HL
  clear hn he
  have hV:Hid (∀ k,k=n→lsame (ts.take k) (us.take k)=lsame ts us):=by
   intro k hk
   subst hk
   rw [List.take_of_length_le (by rw [H1.out];exact Nat.le_refl _),List.take_of_length_le (by rw [H2.out];exact Nat.le_refl _)]
  have hS:Hid (∀ k,lsame (ts.take k) (us.take k)=false→lsame ts us=false):=fun k=>lsame_stop ts us k (H1.out.trans H2.out.symm)
  generalize lsame ts us=V at *
  go_enter Tryz.func96,Tryz.ntmps96
  go_wp2_with fail
  go_loopw [17] (fun i wr=>∃ k:Nat,k≤n∧i=.int .i64 k∧lsame (ts.take k) (us.take k)=true∧Gr w wr) (fun i _=>n - (intOf i).toNat)
  case atStart=>exact ⟨0,Nat.zero_le _,by simp,by simp [lsame],Gr.refl _⟩
  case round=>
   obtain ⟨k,hk,rfl,hl,hg⟩:=hrel
   have GR:Hid (Gr w wr):=hg
   have HS:Hid (lsame (ts.take k) (us.take k)=true):=hl
   clear hl hg
   by_cases hlt:k < n
   ·have hkt:k < ts.length:=by rw [H1.out];exact hlt
    have hku:k < us.length:=by rw [H2.out];exact hlt
    obtain ⟨b1,o1,rfl,hF,hns⟩:∃ b o,a=some ⟨b,o,none⟩∧F b∧NdsIn w F b o ts:=by
     rcases H4.out with q|q
     ·rw [q.1] at hkt;simp at hkt
     ·exact q
    obtain ⟨b2,o2,rfl,gF,gns⟩:∃ b' o,b=some ⟨b',o,none⟩∧G b'∧NdsIn w G b' o us:=by
     rcases G4.out with q|q
     ·rw [q.1] at hku;simp at hku
     ·exact q
    obtain ⟨s1,r1,n1⟩:=hns.get k hkt
    obtain ⟨s2,r2,n2⟩:=gns.get k hku
    have R1:Hid (∀ wq,Gr wr wq→wq.rangeAt b1 (o1+k * 15) ((ts[k]).hd.cells s1)):=fun wq hq=>rangeAt_gr r1 (GR.out.trans hq)
    have R2:Hid (∀ wq,Gr wr wq→wq.rangeAt b2 (o2+k * 15) ((us[k]).hd.cells s2)):=fun wq hq=>rangeAt_gr r2 (GR.out.trans hq)
    have HC:Hid (∀ wq,Gr wr wq→Calls Tryz.prog 70 #[(ts[k]).hd.val s1,(us[k]).hd.val s2] wq fun e w'=>e=.returned (.bool (tsame ts[k] us[k]))∧Gr wq w'):=
     fun wq hq=>H.out k hkt hku s1 s2 wq (GR.out.trans hq) (n1.gr (GR.out.trans hq)) (n2.gr (GR.out.trans hq))
    have O1:Hid (s1.oneCell'=true):=n1.one
    have O2:Hid (s2.oneCell'=true):=n2.one
    have HT:=lsame_take ts us k hkt hku
    rw [HS.out,Bool.true_and] at HT
    have HT':Hid (lsame (ts.take (k+1)) (us.take (k+1))=tsame ts[k] us[k]):=HT
    have hkb:(k:Int)+1≤9223372036854775807:=by have:=HL.out;omega
    clear HT r1 r2 n1 n2 hns gns hF gF H H4 G4 HS
    generalize tsame ts[k] us[k]=B at *
    generalize (ts[k]).hd=ha at *
    generalize (us[k]).hd=hb at *
    go_wp2_with (first|(refine wpList_load_mid rfl 44 (.tmp 20) rfl b1 (o1+k * 15) rfl (ha.cells s1) _ (R1.out _ (by repeat (first|exact Gr.refl _|refine Gr.drew ?_|refine Gr.alloc ?_ _ _))) Tryz.underlying44 rfl infoNode ?_)|(refine wpList_load_mid rfl 44 (.tmp 24) rfl b2 (o2+k * 15) rfl (hb.cells s2) _ (R2.out _ (by repeat (first|exact Gr.refl _|refine Gr.drew ?_|refine Gr.alloc ?_ _ _))) Tryz.underlying44 rfl infoNode ?_)|(refine wpList_store_new rfl 44 (.tmp 8) (.tmp 21) rfl _ _ _ _ _ (by first|rfl|simp) rfl rfl rfl infoNode (ha.one O1.out) ?_)|(refine wpList_store_new rfl 44 (.tmp 9) (.tmp 25) rfl _ _ _ _ _ (by first|rfl|simp) rfl rfl rfl infoNode (hb.one O2.out) ?_))
    refine (HC.out _ (((Gr.refl _).alloc _ _).alloc _ _)).mono ?_
    rintro e w1 ⟨rfl,hg1⟩
    have G2:Hid (Gr w w1):=(GR.out.trans (((Gr.refl _).alloc _ _).alloc _ _)).trans hg1
    clear hg1 HC R1 R2
    cases B
    ·have hB:Hid (false=V):=(hS.out (k+1) HT'.out).symm
     go_wp2_with fail
     go_ret
     exact ⟨rBool hB.out,G2.out⟩
    ·go_wp2_with fail
     go_roundw
     case rel=>exact ⟨k+1,by omega,by go_num,HT'.out,G2.out⟩
     case measure=>simp only [intOf];omega
   ·have hke:k=n:=by omega
    have hB:Hid (true=V):=by show _=_;rw [← hV.out k hke,HS.out]
    subst hke
    clear H H4 G4 HS hV hS
    go_wp2_with fail
    go_ret
    exact ⟨rBool hB.out,GR.out⟩
 ·have hV:Hid (lsame ts us=false):=lsame_len ts us he
  clear H H4 G4
  generalize lsame ts us=V at *
  generalize ts.length=n at *
  generalize us.length=m at *
  go_enter Tryz.func96,Tryz.ntmps96
  go_wp2_with fail
  go_ret
  exact ⟨rBool hV.out.symm,Gr.refl _⟩
theorem tsame_any (N:Nat):∀ (t u:Nd) (sl sg:Value) (F G:Nat→Prop) (w:World),t.size≤N→t.ok→u.ok→NdIn w F sl t→NdIn w G sg u →
  Calls Tryz.prog 70 #[t.hd.val sl,u.hd.val sg] w fun e w'=>e=.returned (.bool (tsame t u))∧Gr w w':=by
 induction N with
 | zero=>intro t u sl sg F G w h;have:=size_pos t;omega
 | succ N ih=>
  intro t u sl sg F G w hN hok gok hin gin
  have H1:Hid (∀ w,Calls Tryz.prog 95 #[t.hd.val sl,u.hd.val sg] w fun e w'=>e=.returned (.bool (hsame t.hd u.hd))∧Gr w w'):=sameFields_at t.hd u.hd hok.x gok.x sl sg
  have H2:Hid (∀ wq,Gr w wq→Calls Tryz.prog 96 #[sl,sg,.func (.func 70) #[] #[]] wq fun e w'=>e=.returned (.bool (lsame t.ts u.ts))∧Gr wq w'):=by
   intro wq hq
   refine equalFunc_of t.ts u.ts t.hd u.hd sl sg F G wq (by rw [← Nd.eta];exact hin.gr hq) (by rw [← Nd.eta];exact gin.gr hq) ?_
   intro i hi gi s1 s2 w2 h2 i1 i2
   refine ih _ _ s1 s2 F G w2 ?_ (hok.l.get i hi) (gok.l.get i gi) i1 i2
   have:=size_get t.ts i hi
   have e:t.size=1+sizeL t.ts:=by rw [Nd.eta t,Nd.size];rfl
   omega
  have hV:Hid (tsame t u=(hsame t.hd u.hd && lsame t.ts u.ts)):=by
   show _=_
   cases t;cases u;rw [tsame];rfl
  generalize tsame t u=V at *
  generalize hsame t.hd u.hd=A at *
  generalize lsame t.ts u.ts=B at *
  generalize t.hd=h at *
  generalize u.hd=g at *
  clear ih hin gin hok gok hN
  go_enter Tryz.func70,Tryz.ntmps70
  go_wp2_with fail
  refine (H1.out _).mono ?_
  rintro e w1 ⟨rfl,hg1⟩
  have hcell:=hg1.ext.cell
  have G1:Hid (Gr w w1):=(((Gr.refl _).alloc _ _).alloc _ _).trans hg1
  clear hg1 H1
  cases A
  ·go_wp2_with fail
   go_ret
   exact ⟨rBool (by rw [hV.out];rfl),G1.out⟩
  ·go_wp2_with fail
   refine (H2.out _ G1.out).mono ?_
   rintro e w2 ⟨rfl,hg2⟩
   have G2:Hid (Gr w w2):=G1.out.trans hg2
   clear hg2 H2 hcell
   go_wp2_with fail
   go_ret
   exact ⟨rBool (by rw [hV.out,Bool.true_and]),G2.out⟩
theorem tsame_at (t u:Nd) (sl sg:Value) (F G:Nat→Prop) (w:World) (hok:t.ok) (gok:u.ok) (hin:NdIn w F sl t) (gin:NdIn w G sg u) :
  Calls Tryz.prog 70 #[t.hd.val sl,u.hd.val sg] w fun e w'=>e=.returned (.bool (tsame t u))∧Gr w w':=
 tsame_any t.size t u sl sg F G w (Nat.le_refl _) hok gok hin gin
mutual
def cpy:Nd→Nd
 | .mk h ts=>.mk { h with x:=one h.x } (cpyL ts)
def cpyL:List Nd→List Nd
 | []=>[]
 | t :: ts=>cpy t :: cpyL ts
end
theorem cpyL_map:∀ ts:List Nd,cpyL ts=ts.map cpy
 | []=>by rw [cpyL];rfl
 | t :: ts=>by rw [cpyL,cpyL_map ts];rfl
theorem cpyL_len (ts:List Nd):(cpyL ts).length=ts.length:=by rw [cpyL_map,List.length_map]
theorem cpyL_take (ts:List Nd) (k:Nat) (h:k < ts.length):cpyL (ts.take (k+1))=cpyL (ts.take k) ++ [cpy ts[k]]:=by
 rw [cpyL_map,cpyL_map,List.take_add_one,List.getElem?_eq_getElem h,List.map_append];rfl
mutual
theorem cpy_size:∀ t:Nd,(cpy t).size=t.size
 | .mk h ts=>by rw [cpy,Nd.size,Nd.size,cpyL_size ts]
theorem cpyL_size:∀ ts:List Nd,sizeL (cpyL ts)=sizeL ts
 | []=>by rw [cpyL]
 | t :: ts=>by rw [cpyL,sizeL,sizeL,cpy_size t,cpyL_size ts]
end
mutual
theorem cpy_ok:∀ t:Nd,t.ok→(cpy t).ok
 | .mk h ts,q=>by rw [Nd.ok] at q;rw [cpy,Nd.ok];exact ⟨one_lt _ q.1,cpyL_ok ts q.2⟩
theorem cpyL_ok:∀ ts:List Nd,okL ts→okL (cpyL ts)
 | [],_=>by rw [cpyL,okL];trivial
 | t :: ts,q=>by rw [okL] at q;rw [cpyL,okL];exact ⟨cpy_ok t q.1,cpyL_ok ts q.2⟩
end
theorem infoNodeZ:(Tryz.prog.info? 44).map (fun i=>(i.zero,i.size,i.bytes))=some (some (.agg #[.int .i64 0,.int .i64 0,.float .f64 0,.string ⟨#[]⟩,.bool false,.int .i64 0,.int .i64 0,.int .i64 0,.bool false,.bool false,.int .i64 0,.int .i64 0,.bool false,.bool false,.slice none 0 0]),15,128):=by kernel_rfl
theorem make_nodes (n:Nat) (hn:n≤1048576) (w:World):∃ cs:Array Value,cs.size=n * 15 ∧
  (Instr.makeSlice 42 (.int .i64 (n:Int)) (.int .i64 (n:Int))).run Tryz.prog w=.ok (.slice (some ⟨w.heap.size,0,none⟩) n n) (w.alloc (.cells cs 44)):=by
 obtain ⟨i,hi,h1⟩:∃ i,Tryz.prog.info? 44=some i∧(i.zero,i.size,i.bytes)=(some (.agg #[.int .i64 0,.int .i64 0,.float .f64 0,.string ⟨#[]⟩,.bool false,.int .i64 0,.int .i64 0,.int .i64 0,.bool false,.bool false,.int .i64 0,.int .i64 0,.bool false,.bool false,.slice none 0 0]),15,128):=by
  have:=infoNodeZ
  cases h:Tryz.prog.info? 44 with
  | none=>rw [h] at this;cases this
  | some i=>rw [h] at this;exact ⟨i,rfl,Option.some.inj this⟩
 simp only [Prod.mk.injEq] at h1
 obtain ⟨hz,hs,hb⟩:=h1
 have:=run_make (P:=Tryz.prog) w 42 44 i _ Tryz.underlying42 hi hz .i64 .i64 n n (by omega) (Int.le_refl _) (by rw [hb];omega) (by omega)
 rw [Int.toNat_natCast] at this
 exact ⟨_,by rw [size_madeCells,hs],this⟩
theorem there_of_block {w:World} {b:Nat} {cs:Array Value} {t:TypeId} (hb:w.heap[b]? = some (.cells cs t (0,0))) (o n:Nat) (h:o+n≤cs.size):w.there b o n:=by
 intro j hj
 constructor
 ·rw [cell_of_row w b (o+j) cs t (0,0) hb,Array.getElem?_eq_getElem (by omega)];rfl
 ·simp [World.frozen?,hb]
theorem gr_below {w w':World} (h:Gr w w'):Below w.heap.size w w':=⟨h.ext.os,h.ext.tape,h.ext.output,h.ext.size,h.ext.block⟩
theorem copy_none (h:Hd) (hx:h.x < 18446744073709551616) (a:Option Addr) (c:Nat) (w:World) :
  Calls Tryz.prog 59 #[h.val (.slice a 0 c)] w fun e w'=>e=.returned (({ h with x:=one h.x }:Hd).val (.slice none 0 0))∧Below w.heap.size w w':=by
 have H1:Hid (∀ w,Calls Tryz.prog 82 #[.float .f64 h.x] w fun e w'=>e=.returned (.float .f64 (one h.x))∧w'=w):=one_any h.x hx
 generalize one h.x=y at *
 obtain ⟨k,o,x,s,b,f,c1,r1,p1,q1,c2,r2,p2,q2⟩:=h
 simp only at *
 go_enter Tryz.func59,Tryz.ntmps59
 go_wp2_with (go_at_call 82;refine (H1.out _).mono ?_;rintro e w' ⟨rfl,rfl⟩)
 generalize hW:((w.alloc (.cells #[.int .i64 k,.int .i64 o,.float .f64 y,.string s,.bool b,.int .i64 f,.int .i64 c1,.int .i64 r1,.bool p1,.bool q1,.int .i64 c2,.int .i64 r2,.bool p2,.bool q2,.slice none 0 0] 44)).alloc _)=W
 have HW:Hid (W=_):=hW.symm
 clear hW
 go_loopw [22] (fun i wr=>i=.int .i64 0∧wr=W) (fun _ _=>0)
 case atStart=>exact ⟨rfl,rfl⟩
 case round=>
  obtain ⟨rfl,rfl⟩:=hrel
  rw [HW.out]
  go_wp2_with (refine wpList_store_new rfl 44 (.tmp 2) (.tmp 34) rfl _ _ _ _ _ (by simp) rfl rfl rfl infoNode (Hd.one ⟨k,o,y,s,b,f,c1,r1,p1,q1,c2,r2,p2,q2⟩ rfl) ?_)
  refine bodyPost_ret (results_cell_row rfl _ _ (w.heap.size+1) 44 _ (0,0) _ rfl (heap_alloc2_new _ _ _) Tryz.underlying44 rfl infoNode) rfl ?_
  exact ⟨rfl,((Below.refl _ _).alloc (Nat.le_refl _) _).alloc (by simp) _⟩
structure CpAt (W0 wr:World) (A n k:Nat) (us:List Nd) (fps:List Nat):Prop where
 below:Below A W0 wr
 lt:A < wr.heap.size
 row:∃ cs,wr.heap[A]? = some (.cells cs 44 (0,0))∧cs.size=n * 15
 len:us.length=k
 own:NdsOwn wr A 0 us fps
 nodup:fps.Nodup
 new:∀ b∈fps,A < b∧b < wr.heap.size
theorem CpAt.step {W0 wr w1:World} {A n k:Nat} {us:List Nd} {fps:List Nat} (h:CpAt W0 wr A n k us fps) (hk:k < n) {B:Nat} (hB:wr.heap.size≤B) (hg:Below wr.heap.size wr w1) {sl:Value} {u:Nd} {f:List Nat} (hu:Own w1 B sl u f) :
  CpAt W0 (w1.setCells A (k * 15) (u.hd.cells sl)) A n (k+1) (us ++ [u]) (fps ++ f):=by
 obtain ⟨cs,h1,h2⟩:=h.row
 have hA:w1.heap[A]? = some (.cells cs 44 (0,0)):=(hg.block A h.lt).trans h1
 have hth:w1.there A (k * 15) 15:=there_of_block hA _ _ (by omega)
 have hne:∀ b,b≠A→(w1.setCells A (k * 15) (u.hd.cells sl)).heap[b]? = w1.heap[b]?:=fun b hb=>heap_setCells_ne hb _ _ _
 refine ⟨?_,?_,?_,?_,?_,?_,?_⟩
 ·exact setCells_below (h.below.trans (hg.mono (Nat.le_of_lt h.lt))) (Nat.le_refl _) _ _
 ·rw [size_setCells];exact Nat.lt_of_lt_of_le h.lt hg.size
 ·exact ⟨_,heap_setCells_at _ _ _ _ hA,by rw [setAll_size,h2]⟩
 ·rw [List.length_append,h.len];rfl
 ·have o1:NdsOwn w1 A 0 us fps:=h.own.mono (fun o' cs' _ _ hr=>rangeAt_block hr (hg.block A h.lt)) (fun b hb=>hg.block b (h.new b hb).2)
  have o2:NdsOwn (w1.setCells A (k * 15) (u.hd.cells sl)) A 0 us fps:=by
   refine o1.mono (fun o' cs' _ q hr=>?_) (fun b hb=>hne b (by have:=(h.new b hb).1;omega))
   exact World.rangeAt_setCells_apart hr _ _ _ (.inr (.inl (by rw [h.len] at q;omega)))
  refine NdsOwn.snoc (sl:=sl) (hu.own.mono (fun b hb=>hne b (by have:=(hu.new b hb).1;have:=h.lt;omega))) o2 ?_
  rw [h.len,Nat.zero_add]
  exact World.rangeAt_setCells_same _ _ _ _ (by simpa using hth)
 ·rw [List.nodup_append]
  refine ⟨h.nodup,hu.nodup,fun b hb b' hb' e=>?_⟩
  subst e
  have:=(h.new b hb).2
  have:=(hu.new b hb').1
  omega
 ·intro b hb
  rw [size_setCells]
  rcases List.mem_append.1 hb with hb|hb
  ·exact ⟨(h.new b hb).1,Nat.lt_of_lt_of_le (h.new b hb).2 hg.size⟩
  ·exact ⟨by have:=(hu.new b hb).1;have:=h.lt;omega,(hu.new b hb).2⟩
theorem CpAt.done {W0 wr:World} {A n:Nat} {us:List Nd} {fps:List Nat} (h:CpAt W0 wr A n n us fps) (hn:0 < n) (hm:n≤1048576) (g:Hd):Own wr A (.slice (some ⟨A,0,none⟩) n n) (.mk g us) (A :: fps):=by
 obtain ⟨cs,h1,h2⟩:=h.row
 refine ⟨?_,?_,?_⟩
 ·rw [NdOwn]
  refine .inr ⟨A,n,fps,cs,by rw [h.len],fun e=>by have:=h.len;rw [e] at this;simp at this;omega,by rw [h.len];exact Nat.le_refl _,by unfold maxLen;omega,h1,h2,rfl,h.own⟩
 ·rw [List.nodup_cons]
  exact ⟨fun hb=>by have:=(h.new A hb).1;omega,h.nodup⟩
 ·intro b hb
  rcases List.mem_cons.1 hb with rfl|hb
  ·exact ⟨Nat.le_refl _,h.lt⟩
  ·exact ⟨Nat.le_of_lt (h.new b hb).1,(h.new b hb).2⟩
theorem setAll_part (pre mid post cs:List Value) (h:mid.length=cs.length):setAll (pre ++ mid ++ post).toArray pre.length cs=(pre ++ cs ++ post).toArray:=by
 apply Array.ext_getElem?
 intro i
 rw [setAll_get _ _ _ _ (by simp;omega)]
 simp only [List.getElem?_toArray]
 by_cases h1:pre.length≤i∧i < pre.length+cs.length
 ·rw [if_pos h1,List.append_assoc,List.getElem?_append_right h1.1,List.getElem?_append_left (by omega)]
 ·rw [if_neg h1]
  by_cases h2:i < pre.length
  ·rw [List.append_assoc,List.append_assoc,List.getElem?_append_left h2,List.getElem?_append_left h2]
  ·rw [List.getElem?_append_right (by simp;omega),List.getElem?_append_right (by simp;omega)]
   simp only [List.length_append]
   rw [h]
theorem wpList_store_part {P:Program} {ops:Array Oper} {rest:List Oper} {op:Oper} {a:Act} {w:World} {Q:Exit→Act→World→Prop} (hgd:op.guard=none) (ty:TypeId) (x y:Operand) (ho:op.op=.store ty x y)
  (b o:Nat) (pre mid post cs:List Value) (t:TypeId) (hb:Blk w b (pre ++ mid ++ post) t) (hpo:pre.length=o) (hml:mid.length=cs.length) (hx:a.eval x=.pointer (some ⟨b,o,none⟩)) (hy:a.eval y=.agg cs.toArray)
  (hi:(P.info? ty).map (·.size)=some cs.length) (h1:cs.toArray.all (·.oneCell')=true)
  (h:∀ W,Blk W b (pre ++ cs ++ post) t→Kp w W (fun i=>i=b)→wpList P ops Q rest (a.put op.dst undef) W):wpList P ops Q (op :: rest) a w:=by
 subst hpo
 have hb':w.heap[b]? = some (.cells (pre ++ mid ++ post).toArray t (0,0)):=hb
 refine wpList_store_mid hgd ty x y ho b pre.length cs.toArray hx hy (there_of_block hb' _ _ (by simp;omega)) (by rw [hi];simp) h1 (h _ ?_ (setCells_kp (fun i=>i=b) rfl _ _ _))
 have:=heap_setCells_at cs.toArray.toList pre.length w _ hb'
 rw [List.toList_toArray,setAll_part pre mid post cs hml] at this
 rw [List.toList_toArray]
 exact this
theorem wpList_store_blk {P:Program} {ops:Array Oper} {rest:List Oper} {op:Oper} {a:Act} {w:World} {Q:Exit→Act→World→Prop} (hgd:op.guard=none) (ty:TypeId) (x y:Operand) (ho:op.op=.store ty x y)
  (b:Nat) (old cs:List Value) (t:TypeId) (hb:Blk w b old t) (hml:old.length=cs.length) (hx:a.eval x=.pointer (some ⟨b,0,none⟩)) (hy:a.eval y=.agg cs.toArray)
  (hi:(P.info? ty).map (·.size)=some cs.length) (h1:cs.toArray.all (·.oneCell')=true)
  (h:∀ W,Blk W b cs t→Kp w W (fun i=>i=b)→wpList P ops Q rest (a.put op.dst undef) W):wpList P ops Q (op :: rest) a w:=
 wpList_store_part hgd ty x y ho b 0 [] old [] cs t (by simpa using hb) rfl hml hx hy hi h1 (fun W hW=>h W (by simpa using hW))
theorem ndOwn_slice {w:World} {sl:Value} {t:Nd} {fp:List Nat} (h:NdOwn w sl t fp):∃ p l c,sl=.slice p l c:=by
 cases t;rw [NdOwn] at h
 rcases h with ⟨_,rfl,_⟩|⟨b,c,_,_,rfl,_⟩
 ·exact ⟨_,_,_,rfl⟩
 ·exact ⟨_,_,_,rfl⟩
def Kc (X:World) (B A:Nat) (w':World):Prop:=∀ a:Addr,a.block < B→a.block≠A→w'.cell? a=X.cell? a
theorem Kc.below {X w':World} {B A:Nat} (h:Below B X w'):Kc X B A w':=fun _ h1 _=>h.cell h1
theorem Kc.sets {X w':World} {B A:Nat} (h:Kc X B A w') (o:Nat) (vs:List Value):Kc X B A (w'.setCells A o vs):=fun a h1 h2=>by
 rw [World.cell?_setCells_out A vs o w' a (fun e=>absurd e h2)];exact h a h1 h2
theorem there15 {w:World} {b o:Nat} (h:w.there b o 15):∃ y0 y1 y2 y3 y4 y5 y6 y7 y8 y9 y10 y11 y12 y13 y14,w.cell? ⟨b,o,none⟩=some y0∧w.cell? ⟨b,o+1,none⟩=some y1∧w.cell? ⟨b,o+2,none⟩=some y2∧w.cell? ⟨b,o+3,none⟩=some y3∧w.cell? ⟨b,o+4,none⟩=some y4∧w.cell? ⟨b,o+5,none⟩=some y5∧w.cell? ⟨b,o+6,none⟩=some y6∧w.cell? ⟨b,o+7,none⟩=some y7∧w.cell? ⟨b,o+8,none⟩=some y8∧w.cell? ⟨b,o+9,none⟩=some y9∧w.cell? ⟨b,o+10,none⟩=some y10∧w.cell? ⟨b,o+11,none⟩=some y11∧w.cell? ⟨b,o+12,none⟩=some y12∧w.cell? ⟨b,o+13,none⟩=some y13∧w.cell? ⟨b,o+14,none⟩=some y14∧w.frozen? ⟨b,o,none⟩=false∧w.frozen? ⟨b,o+1,none⟩=false∧w.frozen? ⟨b,o+2,none⟩=false∧w.frozen? ⟨b,o+3,none⟩=false∧w.frozen? ⟨b,o+4,none⟩=false∧w.frozen? ⟨b,o+5,none⟩=false∧w.frozen? ⟨b,o+6,none⟩=false∧w.frozen? ⟨b,o+7,none⟩=false∧w.frozen? ⟨b,o+8,none⟩=false∧w.frozen? ⟨b,o+9,none⟩=false∧w.frozen? ⟨b,o+10,none⟩=false∧w.frozen? ⟨b,o+11,none⟩=false∧w.frozen? ⟨b,o+12,none⟩=false∧w.frozen? ⟨b,o+13,none⟩=false∧w.frozen? ⟨b,o+14,none⟩=false:=by
 obtain ⟨y0,t0⟩:=Option.isSome_iff_exists.1 (h 0 (by decide)).1
 obtain ⟨y1,t1⟩:=Option.isSome_iff_exists.1 (h 1 (by decide)).1
 obtain ⟨y2,t2⟩:=Option.isSome_iff_exists.1 (h 2 (by decide)).1
 obtain ⟨y3,t3⟩:=Option.isSome_iff_exists.1 (h 3 (by decide)).1
 obtain ⟨y4,t4⟩:=Option.isSome_iff_exists.1 (h 4 (by decide)).1
 obtain ⟨y5,t5⟩:=Option.isSome_iff_exists.1 (h 5 (by decide)).1
 obtain ⟨y6,t6⟩:=Option.isSome_iff_exists.1 (h 6 (by decide)).1
 obtain ⟨y7,t7⟩:=Option.isSome_iff_exists.1 (h 7 (by decide)).1
 obtain ⟨y8,t8⟩:=Option.isSome_iff_exists.1 (h 8 (by decide)).1
 obtain ⟨y9,t9⟩:=Option.isSome_iff_exists.1 (h 9 (by decide)).1
 obtain ⟨y10,t10⟩:=Option.isSome_iff_exists.1 (h 10 (by decide)).1
 obtain ⟨y11,t11⟩:=Option.isSome_iff_exists.1 (h 11 (by decide)).1
 obtain ⟨y12,t12⟩:=Option.isSome_iff_exists.1 (h 12 (by decide)).1
 obtain ⟨y13,t13⟩:=Option.isSome_iff_exists.1 (h 13 (by decide)).1
 obtain ⟨y14,t14⟩:=Option.isSome_iff_exists.1 (h 14 (by decide)).1
 exact ⟨y0,y1,y2,y3,y4,y5,y6,y7,y8,y9,y10,y11,y12,y13,y14,t0,t1,t2,t3,t4,t5,t6,t7,t8,t9,t10,t11,t12,t13,t14,(h 0 (by decide)).2,(h 1 (by decide)).2,(h 2 (by decide)).2,(h 3 (by decide)).2,(h 4 (by decide)).2,(h 5 (by decide)).2,(h 6 (by decide)).2,(h 7 (by decide)).2,(h 8 (by decide)).2,(h 9 (by decide)).2,(h 10 (by decide)).2,(h 11 (by decide)).2,(h 12 (by decide)).2,(h 13 (by decide)).2,(h 14 (by decide)).2⟩
theorem setCells15 (w:World) (b o:Nat) (h:Hd) (sl:Value):w.setCells b o (h.cells sl)=((((((((((((((w.setCell ⟨b,o,none⟩ (.int .i64 h.k)).setCell ⟨b,o+1,none⟩ (.int .i64 h.o)).setCell ⟨b,o+2,none⟩ (.float .f64 h.x)).setCell ⟨b,o+3,none⟩ (.string h.s)).setCell ⟨b,o+4,none⟩ (.bool h.b)).setCell ⟨b,o+5,none⟩ (.int .i64 h.f)).setCell ⟨b,o+6,none⟩ (.int .i64 h.c1)).setCell ⟨b,o+7,none⟩ (.int .i64 h.r1)).setCell ⟨b,o+8,none⟩ (.bool h.p1)).setCell ⟨b,o+9,none⟩ (.bool h.q1)).setCell ⟨b,o+10,none⟩ (.int .i64 h.c2)).setCell ⟨b,o+11,none⟩ (.int .i64 h.r2)).setCell ⟨b,o+12,none⟩ (.bool h.p2)).setCell ⟨b,o+13,none⟩ (.bool h.q2)).setCell ⟨b,o+14,none⟩ sl:=rfl
theorem copy_some (h:Hd) (hx:h.x < 18446744073709551616) (ts:List Nd) (n:Nat) (hts:ts.length=n) (hn:0 < n) (hm:n≤1048576) (b o c:Nat) (F:Nat→Prop) (w:World) (hns:NdsIn w F b o ts)
  (H:Hid (∀ i,(hi:i < ts.length)→∀ (s1:Value) (wq:World),NdIn wq F s1 ts[i]→Calls Tryz.prog 59 #[(ts[i]).hd.val s1] wq fun e w'=>
   ∃ sl' fp,e=.returned ((cpy ts[i]).hd.val sl')∧Own w' wq.heap.size sl' (cpy ts[i]) fp∧Below wq.heap.size wq w')) :
  Calls Tryz.prog 59 #[h.val (.slice (some ⟨b,o,none⟩) n c)] w fun e w'=>
   ∃ sl' fp,e=.returned (({ h with x:=one h.x }:Hd).val sl')∧Own w' w.heap.size sl' (.mk { h with x:=one h.x } (cpyL ts)) fp∧Below w.heap.size w w':=by
 have H1:Hid (∀ w,Calls Tryz.prog 82 #[.float .f64 h.x] w fun e w'=>e=.returned (.float .f64 (one h.x))∧w'=w):=one_any h.x hx
 generalize one h.x=y at *
 have HTS:Hid (ts.length=n):=hts
 have HNS:Hid (NdsIn w F b o ts):=hns
 have HM:Hid (n≤1048576):=hm
 have hb:Hid (b < w.heap.size):=by
  show _ < _
  obtain ⟨sl,hr,_⟩:=hns.get 0 (by omega)
  exact rangeAt_lt hr
 clear hns hts
 obtain ⟨k,o',x,s,bb,f,c1,r1,p1,q1,c2,r2,p2,q2⟩:=h
 simp only at *
 obtain ⟨cs,hcs,hmk⟩:=make_nodes n hm (((w.alloc (.cells #[.int .i64 k,.int .i64 o',.float .f64 y,.string s,.bool bb,.int .i64 f,.int .i64 c1,.int .i64 r1,.bool p1,.bool q1,.int .i64 c2,.int .i64 r2,.bool p2,.bool q2,.slice none 0 0] 44))).alloc (.cells #[.int .i64 0,.int .i64 0,.float .f64 0,.string ⟨#[]⟩,.bool false,.int .i64 0,.int .i64 0,.int .i64 0,.bool false,.bool false,.int .i64 0,.int .i64 0,.bool false,.bool false,.slice none 0 0] 44))
 have HCS:Hid (cs.size=n * 15):=hcs
 clear hcs hm
 have hn':(0:Int) < (n:Int):=by omega
 go_enter Tryz.func59,Tryz.ntmps59
 go_wp2_with (go_at_call 82;refine (H1.out _).mono ?_;rintro e w' ⟨rfl,rfl⟩)
 clear hmk H1
 generalize hA:w.heap.size+1+1=A at *
 generalize hW:(((w.alloc (.cells #[.int .i64 k,.int .i64 o',.float .f64 y,.string s,.bool bb,.int .i64 f,.int .i64 c1,.int .i64 r1,.bool p1,.bool q1,.int .i64 c2,.int .i64 r2,.bool p2,.bool q2,.slice (some ⟨A,0,none⟩) n n] 44)).alloc (.cells #[.int .i64 0,.int .i64 0,.float .f64 0,.string ⟨#[]⟩,.bool false,.int .i64 0,.int .i64 0,.int .i64 0,.bool false,.bool false,.int .i64 0,.int .i64 0,.bool false,.bool false,.slice none 0 0] 44)).alloc (.cells cs 44))=W0 at *
 have HAq:Hid (w.heap.size+2=A):=hA
 have SZ:Hid (W0.heap.size=A+1):=by show _=_;rw [← hW];simp [World.size_alloc];omega
 have B0:Hid (W0.heap[w.heap.size]? = some (.cells #[.int .i64 k,.int .i64 o',.float .f64 y,.string s,.bool bb,.int .i64 f,.int .i64 c1,.int .i64 r1,.bool p1,.bool q1,.int .i64 c2,.int .i64 r2,.bool p2,.bool q2,.slice (some ⟨A,0,none⟩) n n] 44 (0,0))):=by
  show _=_
  rw [← hW,Below.heap_alloc _ _ _ (by simp [World.size_alloc] <;> omega),heap_alloc2_old]
 have B1:Hid (W0.heap[w.heap.size+1]? = some (.cells #[.int .i64 0,.int .i64 0,.float .f64 0,.string ⟨#[]⟩,.bool false,.int .i64 0,.int .i64 0,.int .i64 0,.bool false,.bool false,.int .i64 0,.int .i64 0,.bool false,.bool false,.slice none 0 0] 44 (0,0))):=by
  show _=_
  rw [← hW,Below.heap_alloc _ _ _ (by simp [World.size_alloc] <;> omega),heap_alloc2_new]
 have B2:Hid (W0.heap[A]? = some (.cells cs 44 (0,0))):=by
  show _=_
  rw [← hW,← hA]
  have:=heap_alloc_new ((w.alloc (.cells #[.int .i64 k,.int .i64 o',.float .f64 y,.string s,.bool bb,.int .i64 f,.int .i64 c1,.int .i64 r1,.bool p1,.bool q1,.int .i64 c2,.int .i64 r2,.bool p2,.bool q2,.slice (some ⟨A,0,none⟩) n n] 44)).alloc (.cells #[.int .i64 0,.int .i64 0,.float .f64 0,.string ⟨#[]⟩,.bool false,.int .i64 0,.int .i64 0,.int .i64 0,.bool false,.bool false,.int .i64 0,.int .i64 0,.bool false,.bool false,.slice none 0 0] 44)) (.cells cs 44)
  rw [World.size_alloc,World.size_alloc] at this
  rw [hA] at this ⊢
  exact this
 have G0:Hid (Below w.heap.size w W0):=by
  show Below _ _ _
  rw [← hW]
  exact (((Below.refl _ _).alloc (Nat.le_refl _) _).alloc (by simp [World.size_alloc]) _).alloc (by simp [World.size_alloc];omega) _
 clear hW hA
 go_loopw [22] (fun i wr=>∃ (q:Nat) (fps:List Nat),q≤n∧i=.int .i64 q∧CpAt W0 wr A n q (cpyL (ts.take q)) fps) (fun i _=>n - (intOf i).toNat)
 case atStart=>
  refine ⟨0,[],Nat.zero_le _,rfl,Below.refl _ _,by rw [SZ.out];omega,⟨cs,B2.out,HCS.out⟩,by simp [cpyL],by simp [cpyL,NdsOwn],List.nodup_nil,fun b hb=>by simp at hb⟩
 case round=>
  obtain ⟨q,fps,hq,rfl,hcp⟩:=hrel
  have CP:Hid (CpAt W0 wr A n q (cpyL (ts.take q)) fps):=hcp
  have GW:Hid (Below w.heap.size w wr):=G0.out.trans (hcp.below.mono (by have:=HAq.out;omega))
  have D0:Hid (wr.heap[w.heap.size]? = some (.cells #[.int .i64 k,.int .i64 o',.float .f64 y,.string s,.bool bb,.int .i64 f,.int .i64 c1,.int .i64 r1,.bool p1,.bool q1,.int .i64 c2,.int .i64 r2,.bool p2,.bool q2,.slice (some ⟨A,0,none⟩) n n] 44 (0,0))):=(hcp.below.block _ (by have:=HAq.out;omega)).trans B0.out
  have D1:Hid (wr.heap[w.heap.size+1]? = _):=(hcp.below.block _ (by have:=HAq.out;omega)).trans B1.out
  clear hcp
  by_cases hlt:q < n
  ·have hqt:q < ts.length:=by rw [HTS.out];exact hlt
   obtain ⟨s1,r1',n1⟩:=HNS.out.get q hqt
   have c14:wr.cell? ⟨w.heap.size,14,none⟩=some (.slice (some ⟨A,0,none⟩) n n):=cell_of_row wr _ 14 _ _ _ D0.out
   have R1:Hid (wr.rangeAt b (o+q * 15) ((ts[q]).hd.cells s1)):=rangeAt_block r1' (GW.out.block b hb.out)
   have N1:Hid (∀ wq,Below wr.heap.size wr wq→NdIn wq F s1 ts[q]):=fun wq hq=>n1.mono fun b hb hlt=>⟨(hq.block b (Nat.lt_of_lt_of_le hlt GW.out.size)).trans (GW.out.block b hlt),hb⟩
   have HC:Hid (∀ wq,Below wr.heap.size wr wq→Calls Tryz.prog 59 #[(ts[q]).hd.val s1] wq fun e w'=>
    ∃ sl' fp,e=.returned ((cpy ts[q]).hd.val sl')∧Own w' wq.heap.size sl' (cpy ts[q]) fp∧Below wq.heap.size wq w'):=fun wq hq=>H.out q hqt s1 wq (N1.out wq hq)
   have O1:Hid (s1.oneCell'=true):=n1.one
   have HT:Hid (cpyL (ts.take (q+1))=cpyL (ts.take q) ++ [cpy ts[q]]):=cpyL_take ts q hqt
   have HQB:Hid ((q:Int)+1≤9223372036854775807):=by show _≤_;have:=HM.out;omega
   have hq0:(0:Int)≤(q:Int):=by omega
   have hqn:(q:Int) < (n:Int):=by omega
   clear r1' n1 N1 H
   generalize cpy ts[q]=u at *
   generalize (ts[q]).hd=ha at *
   go_wp2_with (first|(refine wpList_load_mid rfl 44 (.tmp 25) rfl b (o+q * 15) rfl (ha.cells s1) _ R1.out Tryz.underlying44 rfl infoNode ?_)|(refine wpList_store_new rfl 44 (.tmp 5) (.tmp 26) rfl _ _ _ _ _ (by first|rfl|simp) rfl rfl rfl infoNode (ha.one O1.out) ?_))
   go_frame
   have KS:Hid (∀ w',Kc (wr.alloc (.cells (ha.cells s1).toArray 44)) (wr.heap.size+1) A w'→w'.cell? ⟨w.heap.size,14,none⟩=some (.slice (some ⟨A,0,none⟩) n n)∧w'.cell? ⟨wr.heap.size,0,none⟩=some (.int .i64 ha.k)∧w'.cell? ⟨wr.heap.size,1,none⟩=some (.int .i64 ha.o)∧w'.cell? ⟨wr.heap.size,2,none⟩=some (.float .f64 ha.x)∧w'.cell? ⟨wr.heap.size,3,none⟩=some (.string ha.s)∧w'.cell? ⟨wr.heap.size,4,none⟩=some (.bool ha.b)∧w'.cell? ⟨wr.heap.size,5,none⟩=some (.int .i64 ha.f)∧w'.cell? ⟨wr.heap.size,6,none⟩=some (.int .i64 ha.c1)∧w'.cell? ⟨wr.heap.size,7,none⟩=some (.int .i64 ha.r1)∧w'.cell? ⟨wr.heap.size,8,none⟩=some (.bool ha.p1)∧w'.cell? ⟨wr.heap.size,9,none⟩=some (.bool ha.q1)∧w'.cell? ⟨wr.heap.size,10,none⟩=some (.int .i64 ha.c2)∧w'.cell? ⟨wr.heap.size,11,none⟩=some (.int .i64 ha.r2)∧w'.cell? ⟨wr.heap.size,12,none⟩=some (.bool ha.p2)∧w'.cell? ⟨wr.heap.size,13,none⟩=some (.bool ha.q2)∧w'.cell? ⟨wr.heap.size,14,none⟩=some s1):=by
    intro w' hb'
    have hc:∀ j v,((ha.cells s1).toArray)[j]? = some v→w'.cell? ⟨wr.heap.size,j,none⟩=some v:=by
     intro j v hj
     rw [hb' _ (Nat.lt_succ_self _) (by show wr.heap.size≠A;have:=CP.out.lt;omega),World.cell?_alloc_at _ _ _ _ rfl];exact hj
    exact ⟨by rw [hb' _ (by show w.heap.size < _;have:=cell_lt c14;omega) (by show w.heap.size≠A;have:=HAq.out;omega),World.cell?_alloc_lt _ _ _ (cell_lt c14)];exact c14,hc 0 _ rfl,hc 1 _ rfl,hc 2 _ rfl,hc 3 _ rfl,hc 4 _ rfl,hc 5 _ rfl,hc 6 _ rfl,hc 7 _ rfl,hc 8 _ rfl,hc 9 _ rfl,hc 10 _ rfl,hc 11 _ rfl,hc 12 _ rfl,hc 13 _ rfl,hc 14 _ rfl⟩
   have ST:Hid (∀ w',Below (wr.heap.size+1) (wr.alloc (.cells (ha.cells s1).toArray 44)) w'→w'.there A (q * 15) 15):=by
    intro w' hb'
    obtain ⟨cs',e1,e2⟩:=CP.out.row
    have hA:=CP.out.lt
    refine there_of_block (cs:=cs') (t:=44) ?_ _ _ (by omega)
    rw [hb'.block A (by omega),Below.heap_alloc _ _ _ hA];exact e1
   have hS0:=KS.out _ (Kc.below ((Below.refl _ _).drew))
   go_region_held3 (fun w'=>w'.cell? ⟨w.heap.size,14,none⟩=some (.slice (some ⟨A,0,none⟩) n n)∧w'.cell? ⟨wr.heap.size,0,none⟩=some (.int .i64 ha.k)∧w'.cell? ⟨wr.heap.size,1,none⟩=some (.int .i64 ha.o)∧w'.cell? ⟨wr.heap.size,2,none⟩=some (.float .f64 ha.x)∧w'.cell? ⟨wr.heap.size,3,none⟩=some (.string ha.s)∧w'.cell? ⟨wr.heap.size,4,none⟩=some (.bool ha.b)∧w'.cell? ⟨wr.heap.size,5,none⟩=some (.int .i64 ha.f)∧w'.cell? ⟨wr.heap.size,6,none⟩=some (.int .i64 ha.c1)∧w'.cell? ⟨wr.heap.size,7,none⟩=some (.int .i64 ha.r1)∧w'.cell? ⟨wr.heap.size,8,none⟩=some (.bool ha.p1)∧w'.cell? ⟨wr.heap.size,9,none⟩=some (.bool ha.q1)∧w'.cell? ⟨wr.heap.size,10,none⟩=some (.int .i64 ha.c2)∧w'.cell? ⟨wr.heap.size,11,none⟩=some (.int .i64 ha.r2)∧w'.cell? ⟨wr.heap.size,12,none⟩=some (.bool ha.p2)∧w'.cell? ⟨wr.heap.size,13,none⟩=some (.bool ha.q2)∧w'.cell? ⟨wr.heap.size,14,none⟩=some s1) (first|with_reducible exact hS0|with_reducible exact hS2|(rw [← setCells15];exact KS.out _ (Kc.sets (Kc.below hbl) _ _))) (first|(go_at_call 59;refine (HC.out _ (((Below.refl _ _).alloc (Nat.le_refl _) _).drew)).mono ?_;rintro e w2 ⟨sl',fp,rfl,hown,hbw⟩;obtain ⟨pp,ll,cc,rfl⟩:=ndOwn_slice hown.own;have hbl:Below (wr.heap.size+1) (wr.alloc (.cells (ha.cells s1).toArray 44)) w2:=(((Below.refl _ _).drew).trans (hbw.mono (by simp [World.size_alloc])));obtain ⟨y0,y1,y2,y3,y4,y5,y6,y7,y8,y9,y10,y11,y12,y13,y14,t0,t1,t2,t3,t4,t5,t6,t7,t8,t9,t10,t11,t12,t13,t14,f0,f1,f2,f3,f4,f5,f6,f7,f8,f9,f10,f11,f12,f13,f14⟩:=there15 (ST.out _ hbl);have hS2:=KS.out _ (Kc.below hbl)))
   have GB:Hid (Below wr.heap.size wr w2):=((Below.refl _ _).alloc (Nat.le_refl _) _).trans (hbl.mono (Nat.le_succ _))
   have HO:Hid (Own w2 (wr.heap.size+1) (.slice pp ll cc) u fp):=by
    have:=hown
    rw [show ((wr.alloc (.cells (ha.cells s1).toArray 44)).drew).heap.size=wr.heap.size+1 from by simp [World.size_alloc]] at this
    exact this
   have CN:Hid (CpAt W0 (w2.setCells A (q * 15) (u.hd.cells (.slice pp ll cc))) A n (q+1) (cpyL (ts.take (q+1))) (fps ++ fp)):=by
    show CpAt _ _ _ _ _ _ _
    rw [HT.out]
    exact CP.out.step hlt (Nat.le_succ _) GB.out HO.out
   rw [setCells15] at CN
   have hqb:=HQB.out
   clear hS0 hS2 hown hbw hbl KS ST t0 t1 t2 t3 t4 t5 t6 t7 t8 t9 t10 t11 t12 t13 t14 f0 f1 f2 f3 f4 f5 f6 f7 f8 f9 f10 f11 f12 f13 f14 c14
   go_wp2_with fail
   go_roundw
   case rel=>exact ⟨q+1,fps ++ fp,by omega,by go_num,CN.out⟩
   case measure=>simp only [intOf];omega
  ·have hqe:q=n:=by omega
   subst hqe
   have hqn:¬ ((q:Int) < (q:Int)):=by omega
   have DN:Hid (Own wr A (.slice (some ⟨A,0,none⟩) q q) (.mk ⟨k,o',y,s,bb,f,c1,r1,p1,q1,c2,r2,p2,q2⟩ (cpyL ts)) (A :: fps)):=by
    have:=CP.out.done hn HM.out ⟨k,o',y,s,bb,f,c1,r1,p1,q1,c2,r2,p2,q2⟩
    rw [List.take_of_length_le (by rw [HTS.out];exact Nat.le_refl _)] at this
    exact this
   have R0:Hid (wr.rangeAt w.heap.size 0 (Hd.cells ⟨k,o',y,s,bb,f,c1,r1,p1,q1,c2,r2,p2,q2⟩ (.slice (some ⟨A,0,none⟩) q q))):=by
    intro j v hj
    rw [cell_of_row wr _ _ _ _ _ D0.out,Nat.zero_add]
    simpa using hj
   have T1:Hid (wr.there (w.heap.size+1) 0 15):=there_of_block D1.out _ _ (by simp)
   have E1:Hid ((wr.setCells (w.heap.size+1) 0 (Hd.cells ⟨k,o',y,s,bb,f,c1,r1,p1,q1,c2,r2,p2,q2⟩ (.slice (some ⟨A,0,none⟩) q q))).heap[w.heap.size+1]? = some (.cells (Hd.cells ⟨k,o',y,s,bb,f,c1,r1,p1,q1,c2,r2,p2,q2⟩ (.slice (some ⟨A,0,none⟩) q q)).toArray 44 (0,0))):=
    heap_setCells_whole (cs:=(Hd.cells ⟨k,o',y,s,bb,f,c1,r1,p1,q1,c2,r2,p2,q2⟩ (.slice (some ⟨A,0,none⟩) q q)).toArray) D1.out (by simp)
   have OW:Hid (Own (wr.setCells (w.heap.size+1) 0 (Hd.cells ⟨k,o',y,s,bb,f,c1,r1,p1,q1,c2,r2,p2,q2⟩ (.slice (some ⟨A,0,none⟩) q q))) w.heap.size (.slice (some ⟨A,0,none⟩) q q) (.mk ⟨k,o',y,s,bb,f,c1,r1,p1,q1,c2,r2,p2,q2⟩ (cpyL ts)) (A :: fps)):=by
    have hA:=HAq.out
    refine ⟨DN.out.own.mono (fun b hb=>heap_setCells_ne (by have:=(DN.out.new b hb).1;omega) _ _ _),DN.out.nodup,fun b hb=>?_⟩
    rw [size_setCells]
    exact ⟨by have:=(DN.out.new b hb).1;omega,(DN.out.new b hb).2⟩
   have BW:Hid (Below w.heap.size w (wr.setCells (w.heap.size+1) 0 (Hd.cells ⟨k,o',y,s,bb,f,c1,r1,p1,q1,c2,r2,p2,q2⟩ (.slice (some ⟨A,0,none⟩) q q)))):=setCells_below GW.out (Nat.le_succ _) _ _
   clear H CP HNS D0 D1 B0 B1 B2 DN G0 GW
   go_wp2_with (first|(refine wpList_load_mid rfl 44 (.tmp 1) rfl w.heap.size 0 rfl (Hd.cells ⟨k,o',y,s,bb,f,c1,r1,p1,q1,c2,r2,p2,q2⟩ (.slice (some ⟨A,0,none⟩) q q)) _ R0.out Tryz.underlying44 rfl infoNode ?_)|(refine wpList_store_mid rfl 44 (.tmp 2) (.tmp 34) rfl (w.heap.size+1) 0 _ rfl rfl T1.out infoNode (Hd.one ⟨k,o',y,s,bb,f,c1,r1,p1,q1,c2,r2,p2,q2⟩ rfl) ?_))
   refine bodyPost_ret (results_cell_row rfl _ _ (w.heap.size+1) 44 _ (0,0) _ rfl E1.out Tryz.underlying44 rfl infoNode) rfl ?_
   exact ⟨_,rfl,⟨_,OW.out⟩,BW.out⟩
theorem copy_any (N:Nat):∀ (t:Nd) (sl:Value) (F:Nat→Prop) (w:World),t.size≤N→t.size≤1048576→t.ok→NdIn w F sl t →
  Calls Tryz.prog 59 #[t.hd.val sl] w fun e w'=>∃ sl' fp,e=.returned ((cpy t).hd.val sl')∧Own w' w.heap.size sl' (cpy t) fp∧Below w.heap.size w w':=by
 induction N with
 | zero=>intro t sl F w h;have:=size_pos t;omega
 | succ N ih=>
  intro t sl F w hN hm hok hin
  obtain ⟨h,ts⟩:=t
  rw [NdIn] at hin
  obtain ⟨a,c,rfl,_,_,h4⟩:=hin
  have hsz:(Nd.mk h ts).size=1+sizeL ts:=by rw [Nd.size]
  have hln:=length_sizeL ts
  rw [cpy]
  by_cases hz:ts=[]
  ·subst hz
   refine (copy_none h hok.x a c w).mono ?_
   rintro e w' ⟨rfl,hb⟩
   exact ⟨.slice none 0 0,[],rfl,⟨by rw [cpyL,NdOwn];exact .inl ⟨rfl,rfl,rfl⟩,List.nodup_nil,fun b hb=>by simp at hb⟩,hb⟩
  ·obtain ⟨b,o,rfl,_,hns⟩:∃ b o,a=some ⟨b,o,none⟩∧F b∧NdsIn w F b o ts:=by
    rcases h4 with q|q
    ·exact absurd q.1 hz
    ·exact q
   have hp:0 < ts.length:=List.length_pos_iff.2 hz
   refine copy_some h hok.x ts ts.length rfl hp (by omega) b o c F w hns ?_
   intro i hi s1 wq hq
   have h1:=size_get ts i hi
   exact ih _ s1 F wq (by omega) (by omega) (hok.l.get i hi) hq
theorem copy_at (t:Nd) (sl:Value) (F:Nat→Prop) (w:World) (hm:t.size≤1048576) (hok:t.ok) (hin:NdIn w F sl t) :
  Calls Tryz.prog 59 #[t.hd.val sl] w fun e w'=>∃ sl' fp,e=.returned ((cpy t).hd.val sl')∧Own w' w.heap.size sl' (cpy t) fp∧Below w.heap.size w w':=
 copy_any t.size t sl F w (Nat.le_refl _) hm hok hin
theorem exec_node_at {o:Oper} {a:Act} {x:Operand} {b p:Nat} {w:World} (cs:List Value) (ho:o.op=.load 44 x) (hx:a.eval x=.pointer (some ⟨b,p,none⟩)) (hc:w.rangeAt b p cs) (hcs:cs.length=15):(execOp a.eval o).run Tryz.prog w=.ok (.value (.agg cs.toArray)) w:=by
 unfold execOp
 simp only [ho,hx,Instr.loadAt,Instr.sureAddr,Sem.run_bind,Sem.run_pure,Result.andThen_ok,run_loadVar_mid w b p 44 cs _ hc Tryz.underlying44 rfl (by rw [hcs];exact infoNode)]
theorem infoNodeI:∃ i,Tryz.prog.info? 44=some i∧i.zero=some (.agg #[.int .i64 0,.int .i64 0,.float .f64 0,.string ⟨#[]⟩,.bool false,.int .i64 0,.int .i64 0,.int .i64 0,.bool false,.bool false,.int .i64 0,.int .i64 0,.bool false,.bool false,.slice none 0 0])∧i.size=15∧i.bytes=128:=by
 have:=infoNodeZ
 cases h:Tryz.prog.info? 44 with
 | none=>rw [h] at this;cases this
 | some i=>
  rw [h] at this
  have:=Option.some.inj this
  simp only [Prod.mk.injEq] at this
  exact ⟨i,rfl,this.1,this.2.1,this.2.2⟩
structure OwAt (w wr:World) (ps zs:List Value) (h:Hd) (us:List Nd) (v:Value) (fp:List Nat):Prop where
 bel:Below w.heap.size w wr
 b1:Blk wr w.heap.size ps 44
 b2:Blk wr (w.heap.size+1) zs 44
 b3:Blk wr (w.heap.size+2) (h.cells v) 44
 own:Own wr (w.heap.size+3) v (.mk h us) fp
theorem OwAt.start {w:World} (ps zs:List Value) (h:Hd):OwAt w (((w.alloc (.cells ps.toArray 44)).alloc (.cells zs.toArray 44)).alloc (.cells (h.cells (.slice none 0 0)).toArray 44)) ps zs h [] (.slice none 0 0) []:=by
 refine ⟨?_,?_,?_,?_,?_,?_,?_⟩
 ·exact (((Below.refl _ _).alloc (Nat.le_refl _) _).alloc (by simp [World.size_alloc]) _).alloc (by simp [World.size_alloc];omega) _
 ·exact ((Blk.new w ps _).alloc _).alloc _
 ·have:=Blk.new (w.alloc (.cells ps.toArray 44)) zs 44
  rw [World.size_alloc] at this
  exact this.alloc _
 ·have:=Blk.new ((w.alloc (.cells ps.toArray 44)).alloc (.cells zs.toArray 44)) (h.cells (.slice none 0 0)) 44
  rw [World.size_alloc,World.size_alloc] at this
  exact this
 ·rw [NdOwn];exact .inl ⟨rfl,rfl,rfl⟩
 ·exact List.nodup_nil
 ·intro b hb;simp at hb
theorem OwAt.lt {w wr:World} {ps zs:List Value} {h:Hd} {us:List Nd} {v:Value} {fp:List Nat} (q:OwAt w wr ps zs h us v fp):w.heap.size+3≤wr.heap.size:=q.b3.lt
theorem OwAt.step {w wr w2 w4:World} {ps zs:List Value} {h:Hd} {us:List Nd} {v:Value} {fp:List Nat} (q:OwAt w wr ps zs h us v fp) (hg:Below wr.heap.size wr w2) {B:Nat} (hB:wr.heap.size≤B) {sl:Value} {u:Nd} {f:List Nat} (hu:Own w2 B sl u f) {xs:List Value}
  (hx:(w2.alloc (.cells (u.hd.cells sl).toArray 44)).ownsRow (w.heap.size+3) 44 15 v us.length xs) {g c:Nat}
  (ho:w4.ownsRow (w.heap.size+3) 44 15 (.slice (some ⟨g,0,none⟩) (us.length+1) c) (us.length+1) (xs ++ u.hd.cells sl)) (hgr:(w2.alloc (.cells (u.hd.cells sl).toArray 44)).grownBy w4 v.ownBlock) (ht:v.ownBlock=some g∨(w2.alloc (.cells (u.hd.cells sl).toArray 44)).heap.size≤g) :
  ∃ fp',OwAt w (w4.setCell ⟨w.heap.size+2,14,none⟩ (.slice (some ⟨g,0,none⟩) (us.length+1) c)) ps zs h (us ++ [u]) (.slice (some ⟨g,0,none⟩) (us.length+1) c) fp':=by
 have hlt:=q.lt
 have hg3:Below wr.heap.size wr (w2.alloc (.cells (u.hd.cells sl).toArray 44)):=hg.alloc hg.size _
 have own3:Own (w2.alloc (.cells (u.hd.cells sl).toArray 44)) (w.heap.size+3) v (.mk h us) fp:=q.own.below hg3
 have hu3:Own (w2.alloc (.cells (u.hd.cells sl).toArray 44)) (w.heap.size+3) sl u f:=(hu.below ((Below.refl _ _).alloc (Nat.le_refl _) _)).le (by omega)
 have hd:∀ b∈f,b ∉ fp:=fun b hb hb'=>by
  have:=(hu.new b hb).1
  have:=(q.own.new b hb').2
  omega
 obtain ⟨fp',ow4⟩:=own3.grow hx hu3 hd ho hgr ht h
 have hrow:∀ i,v.ownBlock=some i→w.heap.size+3≤i:=fun i hi=>(hx.lt i hi).1
 have hb4:∀ i,i < w.heap.size+3→w4.heap[i]? = wr.heap[i]?:=fun i hi=>by
  rw [hgr.block i (by have:=hg3.size;omega) (fun e=>by have:=hrow i e.symm;omega)]
  exact hg3.block i (by omega)
 have ne:∀ i,i≠w.heap.size+2→(w4.setCell ⟨w.heap.size+2,14,none⟩ (.slice (some ⟨g,0,none⟩) (us.length+1) c)).heap[i]? = w4.heap[i]?:=fun i hi=>heap_setCell_other w4 _ i _ hi
 have sz:(w4.setCell ⟨w.heap.size+2,14,none⟩ (.slice (some ⟨g,0,none⟩) (us.length+1) c)).heap.size=w4.heap.size:=by
  show (w4.heap.modify _ _).size=_
  simp
 have b3':Blk w4 (w.heap.size+2) (h.cells v) 44:=(hb4 _ (by omega)).trans q.b3
 refine ⟨fp',⟨?_,?_,?_,?_,?_⟩⟩
 ·refine ⟨?_,?_,?_,?_,?_⟩
  ·exact hgr.os.trans (hg3.os.trans q.bel.os)
  ·exact hgr.tape.trans (hg3.tape.trans q.bel.tape)
  ·exact hgr.output.trans (hg3.output.trans q.bel.output)
  ·rw [sz];have:=hgr.size;have:=hg3.size;omega
  ·intro i hi
   rw [ne i (by omega),hb4 i (by omega)]
   exact q.bel.block i hi
 ·exact (ne _ (by omega)).trans ((hb4 _ (by omega)).trans q.b1)
 ·exact (ne _ (by omega)).trans ((hb4 _ (by omega)).trans q.b2)
 ·exact b3'.set 14 _
 ·refine ⟨ow4.own.mono (fun b hb=>ne b (by have:=(ow4.new b hb).1;omega)),ow4.nodup,fun b hb=>?_⟩
  rw [sz];exact ow4.new b hb
end Go.Proofs.YtlppcfeakakpfaaGreatDoor
