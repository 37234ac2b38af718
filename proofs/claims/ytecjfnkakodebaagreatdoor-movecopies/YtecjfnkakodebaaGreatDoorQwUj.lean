/-Put: a grid's first content. -/
import Derived.Test.YtecjfnkakodebaaGreatDoorQwXq
import Derived.Test.YtecjfnkakodebaaGreatDoorQwAx
import Derived.Deep.CutRange
set_option maxRecDepth 20000
set_option maxHeartbeats 8000000
namespace Go.Proofs.YtecjfnkakodebaaGreatDoor
open Go.RowKit Go.Maps
theorem load_content_law {ops:Array Oper} {rest:List Oper} {o:Oper} {a:Act} {w:World} {Q:Exit->Act->World->Prop} (hgd:Region.wanted o (yielded ops a.tmps)=true) (x:Operand) (ho:o.op=.load 50 x) (g:Nat) (hx:a.eval x=.pointer (some ⟨g,0,none⟩)) (cs:Array Value) (hg:w.heap[g]? = some (.cells cs 50 (0,0))) (hcs:cs.size=21)
  (h:wpList Tryz.prog ops Q rest (a.put o.dst (.agg cs)) w):wpList Tryz.prog ops Q (o::rest) a w:=
 wpList_step fun K hK=>by
  simp only[hgd,if_true]
  exact wp_load_row 50 x ho g hx 50 cs (0,0) _ hg Tryz.underlying50 rfl (by rw[hcs];exact infoContent) (hK _ _ h)
theorem put_no (g:Nat) (c r:Int) (ct:Ct) (sl:Value) (V:Bool) (w:World) (hV:V=true->vC c r=false)
  (hval:∀wq,Kp w wq Nul->Calls Tryz.prog 43 #[ct.val sl] wq fun e w'=>e=.returned (.bool V)/\Kp wq w' Nul) :
  Calls Tryz.prog 11 #[.pointer (some ⟨g,0,none⟩),.agg #[.int .i64 c,.int .i64 r],ct.val sl] w fun e w'=>e=.returned (.int .i64 (if V then 20 else 1))/\Kp w w' Nul:=by
 obtain⟨W1,hW1⟩:∃W1,(w.alloc (.cells #[.int .i64 c,.int .i64 r] 32)).alloc (.cells (ct.cells sl).toArray 50)=W1:=⟨_,rfl⟩
 have k1:Kp w W1 Nul:=by rw[<- hW1];exact((Kp.refl w Nul).alloc _).alloc _
 have hA1:Blk W1 w.heap.size [.int .i64 c,.int .i64 r] 32:=by rw[<- hW1];exact(Blk.new w [.int .i64 c,.int .i64 r] _).alloc _
 have hC1:Blk W1 (w.heap.size+1) (ct.cells sl) 50:=by
  have:=Blk.new (w.alloc (.cells #[.int .i64 c,.int .i64 r] 32)) (ct.cells sl) 50
  rw[World.size_alloc] at this
  rw[<- hW1];exact this
 have HC1:Hid (((w.alloc (.cells #[.int .i64 c,.int .i64 r] 32)).alloc (.cells (ct.cells sl).toArray 50)).heap[w.heap.size+1]? = some (.cells (ct.cells sl).toArray 50 (0,0))):=by show _=_;rw[hW1];exact hC1
 have HW1:Hid ((w.alloc (.cells #[.int .i64 c,.int .i64 r] 32)).alloc (.cells #[.int .i64 ct.k,.int .i64 ct.v.k,.float .f64 ct.v.x,.string ct.v.s,.bool ct.v.b,.int .i64 ct.v.f,.int .i64 ct.t.hd.k,.int .i64 ct.t.hd.o,.float .f64 ct.t.hd.x,.string ct.t.hd.s,.bool ct.t.hd.b,.int .i64 ct.t.hd.f,.int .i64 ct.t.hd.c1,.int .i64 ct.t.hd.r1,.bool ct.t.hd.p1,.bool ct.t.hd.q1,.int .i64 ct.t.hd.c2,.int .i64 ct.t.hd.r2,.bool ct.t.hd.p2,.bool ct.t.hd.q2,sl] 50)=W1):=hW1
 have HS:Hid (∀wq,Kp W1 wq Nul->(wq.cell? ⟨w.heap.size,0,none⟩=some (.int .i64 c)/\wq.cell? ⟨w.heap.size,1,none⟩=some (.int .i64 r))):=fun wq k=>⟨(hA1.kp k (fun x=>x)).cell rfl,(hA1.kp k (fun x=>x)).cell rfl⟩
 have HV:Hid (Calls Tryz.prog 43 #[ct.val sl] W1 fun e w'=>e=.returned (.bool V)/\Kp W1 w' Nul):=hval W1 k1
 have HA:Hid (V=true->∀w,Calls Tryz.prog 44 #[.agg #[.int .i64 c,.int .i64 r]] w fun e w'=>e=.returned (.bool false)/\Kp w w' Nul):=fun h w=>(pValid_at c r w).mono fun e w' ⟨h1,h2⟩=>⟨by rw[h1,hV h],by rw[h2];exact(Kp.refl w Nul).alloc _⟩
 have HK1:Hid (Kp w W1 Nul):=k1
 clear hval hW1 k1 hA1 hC1 hV
 go_enter Tryz.func11,Tryz.ntmps11
 go_wp2_with (first|(refine load_content_law rfl (.tmp 5) rfl (w.heap.size+1) rfl _ HC1.out rfl ?_)|fail)
 rw[HW1.out]
 refine HV.out.mono ?_
 rintro e w2 ⟨rfl,hk2⟩
 obtain⟨a1,a2⟩:=HS.out w2 hk2
 have HK2:Hid (Kp w w2 Nul):=HK1.out.trans hk2
 clear hk2 HV HC1 HW1 HS
 cases V with
 | false=>
  go_wp2_with fail
  go_ret
  exact⟨rfl,HK2.out⟩
 | true=>
  go_wp2_with fail
  refine(HA.out trivial _).mono ?_
  rintro e w3 ⟨rfl,hk3⟩
  have HK3:Hid (Kp w w3 Nul):=HK2.out.trans hk3
  clear hk3
  go_wp2_with fail
  go_ret
  exact⟨rfl,HK3.out⟩
theorem addr_inv {key:Value} {l:Lit} (h:keyOf Tryz.prog 32 key=some l):∃x y,key=.agg #[.int .i64 x,.int .i64 y]/\I64 x/\I64 y:=by
 unfold keyOf at h
 rw[Tryz.underlying32] at h
 simp only at h
 split at h
 ·rename_i hf
  rw[Bool.and_eq_true] at hf
  obtain⟨n,hn⟩:∃n,Tryz.prog.types.size=n+1:=by
   have h:=rowAddr
   generalize Tryz.prog.types.size=s at h
   cases s with
   | zero=>exact absurd h (Nat.not_lt_zero _)
   | succ n=>exact⟨n,rfl⟩
  rw[hn] at h
  have hfm:=hf.2
  cases key <;> simp only[Value.formed,Tryz.underlying32,cellsAddr2,Bool.false_eq_true,beq_iff_eq] at hfm
  rename_i cs
  obtain⟨c0,c1,rfl⟩:∃c0 c1,cs=#[c0,c1]:=by
   obtain⟨l⟩:=cs
   match l,hfm with
   | [c0,c1],_=>exact⟨c0,c1,rfl⟩
  simp[Program.keyLits,Tryz.underlying32,Tryz.underlying3,Value.cells,cellsInt1,cellsAddr2] at h
  have wf:∀z:Int,(Lit.int .i64 z).wf=true->I64 z:=fun z hz=>by
   have hm:IntKind.i64.min=-9223372036854775808:=rfl
   simp[Lit.wf,hm] at hz
   unfold I64
   omega
  cases c0 with
  | int q0 x=>
   by_cases h0:q0=.i64/\(Lit.int .i64 x).wf=true
   ·simp only[h0,and_self,if_true,Option.bind_some,Function.comp] at h
    cases c1 with
    | int q1 y=>
     by_cases h1:q1=.i64/\(Lit.int .i64 y).wf=true
     ·obtain⟨rfl,h0⟩:=h0
      obtain⟨rfl,h1⟩:=h1
      exact⟨x,y,rfl,wf x h0,wf y h1⟩
     ·simp[h1] at h
    | _=>simp at h
   ·simp[h0] at h
  | _=>simp at h
 ·cases h
theorem kl_of {x y:Int} {l:Lit} (h:keyOf Tryz.prog 32 (.agg #[.int .i64 x,.int .i64 y])=some l):I64 x/\I64 y/\l=kl x y:=by
 obtain⟨x',y',e,hx,hy⟩:=addr_inv h
 have e2:x=x'/\y=y':=by simpa using e
 obtain⟨rfl,rfl⟩:=e2
 refine⟨hx,hy,?_⟩
 have:=kl_key hx hy
 rw[h] at this
 exact Option.some.inj this
theorem wpList_next_cells (w:World) {ops:Array Oper} {rest:List Oper} {o:Oper} {a:Act} {Q:Exit->Act->World->Prop} (hg:o.guard=none) (it:Operand) (hop:o.op=Op.next it false)
  (b r n:Nat) (D:DataW Value) (left:Lit->Bool) (cnt:Nat) (hit:a.eval it=.pointer (some ⟨r,0,none⟩)) (h:w.ranges Tryz.prog 32 rawE b r n D left cnt)
  (hDone:cnt=0->(∀kl,left kl=false)->wpList Tryz.prog ops Q rest (a.put o.dst (.tuple #[.bool false])) w)
  (hMore:∀(x:Int×Int) (c:Value) (w':World) (cnt':Nat),(I64 x.1/\I64 x.2)->left (kl x.1 x.2)=true->(∀zd,D.atKey (kl x.1 x.2) zd=.held c)->w'.ranges Tryz.prog 32 rawE b r n D (fun z=>left z && !z.sameKey (kl x.1 x.2)) cnt'->cnt'<cnt ->
   w.grownBy w' (some r)->w'.heap.size=w.heap.size->(Instr.entry (.pointer (some ⟨r,0,none⟩))).run Tryz.prog w'=.ok (.tuple #[.agg #[.int .i64 x.1,.int .i64 x.2],c]) w'->wpList Tryz.prog ops Q rest (a.put o.dst (.tuple #[.bool true,.agg #[.int .i64 x.1,.int .i64 x.2],c])) w') :
  wpList Tryz.prog ops Q (o::rest) a w:=
 wpList_next_ranges w hg it hop 32 lawAddr rawE (fun x:Int×Int=>Value.agg #[.int .i64 x.1,.int .i64 x.2]) (fun c:Value=>c) (fun key kl hkey=>by obtain⟨x,y,rfl,_⟩:=addr_inv hkey;exact⟨(x,y),rfl⟩) (fun v y hv=>⟨v,rfl⟩)
  b r n D left cnt hit h hDone (fun x c kl' y w' cnt' hkey hlk hv hat hrg hlt hgr hsz hen=>by
   obtain⟨hx,hy,he⟩:=kl_of (x:=x.1) (y:=x.2) (l:=kl') hkey
   subst he
   have hy2:y.1=.held c:=(congrArg Prod.fst (Option.some.inj hv)).symm
   rw[hy2] at hat
   exact hMore x c w' cnt' ⟨hx,hy⟩ hlk hat hrg hlt hgr hsz hen)
def ct7:Ct:=⟨1,⟨1,4619567317775286272,⟨#[]⟩,false,0⟩,zNd⟩
theorem zsize:zNd.size=1:=by unfold zNd;rw[Nd.size,sizeL]
theorem cpy_zNd:cpy zNd=zNd:=by
 unfold zNd
 rw[cpy,cpyL]
 rfl
theorem zeroN_z:zeroN zNd=true:=by
 unfold zeroN zNd
 simp[tsame,hsame]
 try decide
theorem cp7:cpC ct7=ct7:=by
 unfold cpC ct7
 simp only[cpy_zNd]
 congr 1
theorem GridIn.kp {w w':World} {F:Nat->Prop} {g:Nat} {L:List Cc} (h:GridIn w F g L) (k:Kp w w' Nul):GridIn w' F g L:=by
 obtain⟨h0,h⟩:=h
 refine⟨h0,?_⟩
 rcases h with ⟨hb,he⟩|⟨m,D,hb,hFm,hne,hown,hm⟩
 ·exact .inl ⟨(k.block g (Array.getElem?_eq_some_iff.1 hb).1 (fun x=>x)).trans hb,he⟩
 ·exact .inr ⟨m,D,(k.block g (Array.getElem?_eq_some_iff.1 hb).1 (fun x=>x)).trans hb,hFm,hne,ownsMap_block hown (k.block m hown.lt (fun x=>x)),⟨hm.size,hm.rng,hm.keys,fun c' r' ct' h'=>by obtain⟨sl,e1,e2⟩:=hm.vals c' r' ct' h';exact⟨sl,e1,e2.kpn k⟩,hm.once⟩⟩
theorem seven:FloatKind.f64.format.order 4619567317775286272 4619567317775286272=some .eq:=by decide +kernel
end Go.Proofs.YtecjfnkakodebaaGreatDoor
