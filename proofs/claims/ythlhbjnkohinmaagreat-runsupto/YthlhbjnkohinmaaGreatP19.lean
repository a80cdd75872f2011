import Derived.Test.YthlhbjnkohinmaaGreatP18
import Derived.Test.YthlhbjnkohinmaaGreatP08
import Derived.Test.YthlhbjnkohinmaaGreatP12
import Derived.Test.YthlhbjnkohinmaaGreatP13
import Derived.Test.YthlhbjnkohinmaaGreatP11
namespace Go.Proofs.YthlhbjnkohinmaaGreat
set_option maxRecDepth 100000
set_option maxHeartbeats 8000000
open Go.RowKit
theorem DN (l:List Wr) (c:ByteArray):-1≤eQ l c∧eQ l c<l.length:=by
 unfold eQ
 cases h:bd c l with
 |none=>simp only[];omega
 |some k=>have:=fO h;simp only[];omega
variable {α:Type}
def fJ (lt:α→α→Bool) (x:α):List α→List α
 |[]=>[x]
 |y::r=>if lt x y then x::y::r else y::fJ lt x r
def bK (lt:α→α→Bool) (l:List α):List α:=l.foldl (fun out x=>fJ lt x out) []
def kH (lt:α→α→Bool):List α→List α→List α
 |[],B=>B
 |a::A,[]=>a::A
 |a::A,b::B=>if lt b a then b::kH lt (a::A) B else a::kH lt A (b::B)
termination_by A B=>A.length+B.length
structure w8 (lt:α→α→Bool):Prop where
 trans:∀ {a b c},lt a b=true→lt b c=true→lt a c=true
 neg:∀ {a b c},lt a b=false→lt b c=false→lt a c=false
 irr:∀ a,lt a a=false
theorem pe (lt:α→α→Bool) (A:List α):kH lt A []=A:=by cases A <;> simp[kH]
theorem y6 (lt:α→α→Bool) (x:α):∀ A,kH lt A [x]=fJ lt x A
 |[]=>by simp[kH,fJ]
 |a::A=>by
  rw[kH,fJ]
  by_cases h:lt x a=true
  ·rw[if_pos h,if_pos h,pe]
  ·rw[if_neg h,if_neg h,y6 lt x A]
theorem sM {lt:α→α→Bool} (hw:w8 lt) (x:α):∀ A B,kH lt A (fJ lt x B)=fJ lt x (kH lt A B)
 |[],B=>by simp[kH]
 |a::A,[]=>by rw[pe];exact y6 lt x (a::A)
 |a::A,b::B=>by
  have i1:=sM hw x (a::A) B
  have i2:=sM hw x A (b::B)
  have e1:fJ lt x (b::B)=if lt x b then x::b::B else b::fJ lt x B:=rfl
  have e2:kH lt (a::A) (b::B)=if lt b a then b::kH lt (a::A) B else a::kH lt A (b::B):=by rw[kH]
  by_cases h1:lt b a=true
  ·rw[e2,if_pos h1]
   by_cases h2:lt x b=true
   ·rw[e1,if_pos h2,fJ,if_pos h2,kH,if_pos (hw.trans h2 h1),e2,if_pos h1]
   ·rw[e1,if_neg h2,fJ,if_neg h2,kH,if_pos h1,i1]
  ·rw[e2,if_neg h1]
   by_cases h2:lt x b=true
   ·rw[e1,if_pos h2,fJ]
    rw[kH]
    by_cases h3:lt x a=true
    ·rw[if_pos h3,if_pos h3,e2,if_neg h1]
    ·rw[if_neg h3,if_neg h3]
     rw[e1,if_pos h2] at i2
     rw[i2]
   ·have h3:¬lt x a=true:=by
     have:=hw.neg (a:=x) (b:=b) (c:=a) (by simpa using h2) (by simpa using h1)
     simp[this]
    rw[e1,if_neg h2] at i2 ⊢
    rw[fJ,if_neg h3,kH,if_neg h1,i2]
termination_by A B=>A.length+B.length
theorem BM {lt:α→α→Bool} (hw:w8 lt) (l1 l2:List α):kH lt (bK lt l1) (bK lt l2)=bK lt (l1++l2):=by
 have key:∀ (n:Nat) (l2:List α),l2.length=n→kH lt (bK lt l1) (bK lt l2)=bK lt (l1++l2):=by
  intro n
  induction n with
  |zero=>
   intro l2 h
   have:l2=[]:=List.length_eq_zero_iff.mp h
   subst this
   simp[bK,pe]
  |succ n ih=>
   intro l2 h
   rcases List.eq_nil_or_concat l2 with rfl|⟨l,x,rfl⟩
   ·simp at h
   ·have hl:l.length=n:=by simpa using h
    have e1:bK lt (l.concat x)=fJ lt x (bK lt l):=by simp[bK]
    have e2:bK lt (l1++l.concat x)=fJ lt x (bK lt (l1++l)):=by
     rw[List.concat_eq_append,←List.append_assoc]
     simp[bK]
    rw[e1,e2,sM hw,ih l hl]
 exact key _ l2 rfl
def lY (lt:α→α→Bool) (l:List α):Prop:=l.Pairwise fun a b=>lt b a=false
theorem qF {lt:α→α→Bool} {x z:α}:∀ {l:List α},z∈fJ lt x l↔z=x∨z∈l
 |[]=>by simp[fJ]
 |y::r=>by
  rw[fJ]
  split
  ·simp
  ·simp[qF (l:=r)]
   constructor
   ·rintro (h|h|h) <;> simp[h]
   ·rintro (h|h|h) <;> simp[h]
theorem ou {lt:α→α→Bool} (hw:w8 lt) (x:α):∀ {l:List α},lY lt l→lY lt (fJ lt x l)
 |[],_=>by simp[fJ,lY]
 |y::r,h=>by
  have h':=List.pairwise_cons.mp h
  rw[fJ]
  by_cases e:lt x y=true
  ·rw[if_pos e]
   refine List.pairwise_cons.mpr ⟨fun z hz=>?_,h⟩
   cases hzx:lt z x with
   |false=>rfl
   |true=>
    have:=hw.trans hzx e
    rcases List.mem_cons.mp hz with rfl|hz
    ·rw[hw.irr] at this;cases this
    ·rw[h'.1 z hz] at this;cases this
  ·rw[if_neg e]
   refine List.pairwise_cons.mpr ⟨fun z hz=>?_,ou hw x h'.2⟩
   rcases qF.mp hz with rfl|hz
   ·simpa using e
   ·exact h'.1 z hz
theorem ym {lt:α→α→Bool} (hw:w8 lt) (x:α):∀ (O:List α) (k:Nat),k≤O.length→lY lt O→(∀ b∈O.drop k,lt x b=true)→(k=0∨∃ h:k - 1<O.length,lt x O[k - 1]=false)→fJ lt x O=O.take k++x::O.drop k
 |[],k,hk,_,_,_=>by
  have:k=0:=by simpa using hk
  subst this
  rfl
 |o::r,0,_,_,h1,_=>by
  have:=h1 o (by simp)
  simp[fJ,this]
 |o::r,m+1,hk,hs,h1,h2=>by
  have hs':=List.pairwise_cons.mp hs
  have hxo:lt x o=false:=by
   rcases h2 with h|⟨h,e⟩
   ·omega
   ·cases m with
    |zero=>simpa using e
    |succ m=>
     have hm:m<r.length:=by simp at h;omega
     have e':lt x r[m]=false:=by simpa using e
     exact hw.neg e' (hs'.1 r[m] (List.getElem_mem hm))
  rw[fJ,if_neg (by simp[hxo])]
  rw[ym hw x r m (by simpa using hk) hs'.2 (fun b hb=>h1 b (by simpa using hb)) ?_]
  ·simp
  ·cases m with
   |zero=>exact .inl rfl
   |succ m=>
    right
    rcases h2 with h|⟨h,e⟩
    ·omega
    ·have hm:m<r.length:=by simp at h;omega
     exact⟨by simpa using hm,by simpa using e⟩
theorem qO {lt:α→α→Bool} (l:List α) (x:α):bK lt (l++[x])=fJ lt x (bK lt l):=by simp[bK]
theorem s8 {lt:α→α→Bool} (hw:w8 lt) (l:List α):lY lt (bK lt l):=by
 have key:∀ (l:List α) (out:List α),lY lt out→lY lt (l.foldl (fun out x=>fJ lt x out) out):=by
  intro l
  induction l with
  |nil=>intro out h;exact h
  |cons x l ih=>intro out h;exact ih _ (ou hw x h)
 exact key l [] List.Pairwise.nil
theorem lz {lt:α→α→Bool} {z:α}:∀ {l:List α},z∈bK lt l↔z∈l:=by
 have key:∀ (l out:List α),z∈l.foldl (fun out x=>fJ lt x out) out↔z∈l∨z∈out:=by
  intro l
  induction l with
  |nil=>intro out;simp
  |cons x l ih=>
   intro out
   rw[List.foldl_cons,ih,qF]
   simp
   constructor
   ·rintro (h|h|h) <;> simp[h]
   ·rintro ((h|h)|h) <;> simp[h]
 intro l
 have:=key l []
 simpa [bK] using this
theorem tX {lt:α→α→Bool} (x:α):∀ l:List α,(fJ lt x l).length=l.length+1
 |[]=>rfl
 |y::r=>by
  rw[fJ]
  split
  ·simp
  ·simp[tX x r]
theorem dO {lt:α→α→Bool} (l:List α):(bK lt l).length=l.length:=by
 have key:∀ (l out:List α),(l.foldl (fun out x=>fJ lt x out) out).length=l.length+out.length:=by
  intro l
  induction l with
  |nil=>intro out;simp
  |cons x l ih=>intro out;rw[List.foldl_cons,ih,tX];simp;omega
 have:=key l []
 simpa [bK] using this
theorem fT {w:World} {base:Nat} {e:TypeId} {size g n cap j:Nat} {xs:List Value} (h:w.ownsRow base e size (.slice (some ⟨g,0,none⟩) n cap) n xs) (u:Value):(w.setCell ⟨g,j,none⟩ u).ownsRow base e size (.slice (some ⟨g,0,none⟩) n cap) n (xs.set j u):=by
 obtain⟨h1,h2⟩:=h
 refine⟨by simpa using h1,?_⟩
 rcases h2 with ⟨e,_⟩|⟨g',cap',cur,e,hb,hh,h3,h4,h5,h6⟩
 ·simp at e
 ·simp only[Value.slice.injEq,Option.some.injEq,Addr.mk.injEq,and_true,true_and] at e
  obtain⟨rfl,rfl⟩:=e
  exact .inr ⟨g,cap,cur.setIfInBounds j u,rfl,hb,ah hh j u,h3,h4,by simpa using h5,by rw[←h6];simp[List.take_set]⟩
theorem eN {w:World} {base:Nat} {e:TypeId} {size g n cap:Nat} {xs:List Value} (h:w.ownsRow base e size (.slice (some ⟨g,0,none⟩) n cap) n xs) (j:Nat):w.frozen? ⟨g,j,none⟩=false:=by
 obtain⟨cs,hcs⟩:=fu h g rfl
 exact ai hcs j
theorem Dx {L R:List Value} {m i:Nat} (hL:L.length=m) (v:Value):(L++R).set (m+i) v=L++R.set i v:=by
 subst hL
 simp
def pf (xs:List Value) (m:Nat) (a b:In):List Value:=
 (((((((((((xs.set ((m+1)*6) (.int .i64 a.rule)).set ((m+1)*6+1) (.int .i64 (eI a.env 0))).set ((m+1)*6+2) (.int .i64 (eI a.env 1))).set ((m+1)*6+3) (.int .i64 (eI a.env 2))).set ((m+1)*6+4) (.int .i64 (eI a.env 3))).set ((m+1)*6+5) (.string (bA a.facts))).set (m*6) (.int .i64 b.rule)).set (m*6+1) (.int .i64 (eI b.env 0))).set (m*6+2) (.int .i64 (eI b.env 1))).set (m*6+3) (.int .i64 (eI b.env 2))).set (m*6+4) (.int .i64 (eI b.env 3))).set (m*6+5) (.string (bA b.facts))
theorem xf (A B:List In) (a b:In) (m:Nat) (hA:A.length=m):pf (aH (A++a::b::B)) m a b=aH (A++b::a::B):=by
 have hl:(aH A).length=m*6:=by rw[qB,hA]
 have e1:aH (A++a::b::B)=aH A++aH (a::b::B):=l5 _ _
 have e2:aH (A++b::a::B)=aH A++aH (b::a::B):=l5 _ _
 have s0:=fun (R:List Value) (v:Value)=>Dx (R:=R) (i:=0) hl v
 simp only[Nat.add_zero] at s0
 have q0:(m+1)*6=m*6+6:=by omega
 have q1:(m+1)*6+1=m*6+7:=by omega
 have q2:(m+1)*6+2=m*6+8:=by omega
 have q3:(m+1)*6+3=m*6+9:=by omega
 have q4:(m+1)*6+4=m*6+10:=by omega
 have q5:(m+1)*6+5=m*6+11:=by omega
 unfold pf
 rw[e1,e2,q5,q4,q3,q2,q1,q0]
 simp only[Dx hl,s0]
 rfl
theorem DY {O:List In} {x:In} {k:Nat} (hk:k≤O.length):(O.take k++x::O.drop k).length=O.length+1∧∃ h:k<(O.take k++x::O.drop k).length,(O.take k++x::O.drop k)[k]=x:=by
 have h1:(O.take k).length=k:=by simp;omega
 have h2:(O.take k++x::O.drop k).length=O.length+1:=by
  rw[List.length_append,List.length_cons,h1,List.length_drop];omega
 refine⟨h2,by omega,?_⟩
 rw[List.getElem_append_right (by omega)]
 simp[h1]
theorem BP {O:List In} {x:In} {m:Nat} (hm:m<O.length):∃ h:m<(O.take (m+1)++x::O.drop (m+1)).length,(O.take (m+1)++x::O.drop (m+1))[m]=O[m]:=by
 have h1:(O.take (m+1)).length=m+1:=by simp;omega
 refine⟨by simp;omega,?_⟩
 rw[List.getElem_append_left (by omega)]
 simp
theorem Ct {O:List In} {x:In} {m:Nat} (hm:m<O.length):O.take (m+1)++x::O.drop (m+1)=O.take m++O[m]::x::O.drop (m+1)∧O.take m++x::O.drop m=O.take m++x::O[m]::O.drop (m+1):=by
 constructor
 ·rw[List.take_succ_eq_append_getElem hm,List.append_assoc];rfl
 ·rw[List.drop_eq_getElem_cons hm]
def rM (i:In):ByteArray:=fN i++⟨#[59]⟩
def ez (l:List In):ByteArray:=cg (l.map rM)
theorem p7 (l:List In) (j:Nat) (hj:j<l.length):ez (l.take (j+1))=ez (l.take j)++fN l[j]++⟨#[59]⟩:=by
 unfold ez
 rw[List.take_succ_eq_append_getElem hj,List.map_append]
 show cg (_++[rM l[j]])=_
 rw[ia,ByteArray.append_assoc]
 rfl
theorem qE {i:In} (h:i.facts.length≤100):(fN i).size≤301:=by
 unfold fN
 rw[ByteArray.size_append,fA]
 have:(strOfNums [48+(i.rule:Int)]).size=1:=rfl
 omega
theorem lZ:∀ (l:List In),(∀ i∈l,i.facts.length≤100)→(ez l).size≤302*l.length:=by
 intro l
 have key:∀ (l:List In) (z:ByteArray),(∀ i∈l,i.facts.length≤100)→((l.map rM).foldl (·++·) z).size≤z.size+302*l.length:=by
  intro l
  induction l with
  |nil=>intro z _;simp
  |cons i l ih=>
   intro z h
   have h1:=ih (z++rM i) (fun j hj=>h j (by simp[hj]))
   have h2:=qE (h i (by simp))
   rw[List.map_cons,List.foldl_cons]
   have h3:(rM i).size=(fN i).size+1:=by unfold rM;rw[ByteArray.size_append];rfl
   rw[ByteArray.size_append,h3] at h1
   simp only[List.length_cons]
   omega
 intro h
 have:=key l ByteArray.empty h
 unfold ez cg
 simpa using this
theorem rx (Q:Value→eV) (y:Nat) (E:bk) (f:List Nat) (n:Int) (S:br) (M:List In) (w:World) (hE:bJ Q y E w f) (hW:kB E) (hf:dq E.opn n=some S) (hM:∀ i∈M,i.facts.length≤100∧i.rule≤9) (hMl:M.length≤10000000000)
  (HRE:Hid (∀ (p:Value) (a:Option Addr) (cp:Nat) (cs:List Value) (fc fp:List Nat),im y E.com S p a cp cs fc fp w→Calls Tryz.prog 63 #[.pointer (some ⟨y,0,none⟩),p] w fun e w'=>∃ v,e=.returned v∧w'.ownsRow w.heap.size 136 6 v M.length (aH M)∧w.grownBy w' none)) :
  Calls Tryz.prog 32 #[.pointer (some ⟨y,0,none⟩),.int .i64 n] w fun e w'=>e=.returned (.tuple #[.string (ez M),.int .i64 0])∧w.grownBy w' none:=by
 obtain⟨rv,cv,kv,ov,cs,ps,f1,f2,⟨hb,rfl⟩,⟨f3,f4,_,⟨f5,f6,⟨hcr,_⟩,⟨f7,f8,hcom,⟨f9,f10,_,⟨f11,f12,⟨hor,_⟩,hses,_⟩,_⟩,_⟩,_⟩,_⟩,_⟩:=hE
 obtain⟨ac,mc,cc,rfl⟩:=an hcr
 obtain⟨ao,mo,co,rfl⟩:=an hor
 have emc:=ar hcr
 subst emc
 have d2:w.cell? ⟨y,2,none⟩=some (.slice ac E.com.length cc):=by simp[World.cell?,hb]
 have d4:w.cell? ⟨y,4,none⟩=some (.slice ao mo co):=by simp[World.cell?,hb]
 have HF:=af (dW y E.opn ps f12 n ao mo co w d4 hor hses (by have:=hW.opnLen;omega))
 have HSES:=af hses
 have HCOM:=af hcom
 have HFS:=af hf
 have HM:=af hM
 have HTS:=af (fun j=>lZ (M.take j) (fun i hi=>(hM i (List.mem_of_mem_take hi)).1))
 clear hb hses hcom d4 hor hf hM
 go_enter Tryz.func32,Tryz.ntmps32
 go_wp2_with fail
 go_at_call 44
 refine HF.out.mono ?_
 rintro e w' ⟨⟨u,rfl,hans⟩,rfl⟩
 rcases hans with ⟨k,h1,h2,hn1,hn2,rfl⟩|⟨hn,rfl⟩
 ·have eS:E.opn[k]=S:=by
   have:=HFS.out
   rw[gh h1 hn1 hn2] at this
   simpa using this
  obtain⟨fp,hse,_⟩:=aA.get HSES.out k h2 h1
  rw[eS] at hse
  have HC:=af (HRE.out ps[k] ac cc cs f7 fp ⟨d2,hcr,HCOM.out,hse⟩)
  obtain⟨g1,_,_,_,_,_,_,hp,_⟩:=hse.open
  rw[hp] at HC ⊢
  clear hse hp hn1 hn2 hcr d2 HF eS
  go_wp2_with fail
  go_at_call 63
  refine HC.out.mono ?_
  rintro e w1 ⟨v,rfl,hown,hg1⟩
  obtain⟨a,m,c,rfl⟩:=an hown
  have em:=ar hown
  subst em
  have HG1:=af hg1
  have HOW:=af hown
  clear HC hown hg1
  go_wp2_with fail
  go_loopw [8,9] (fun t i wr=>∃ j:Nat,j≤M.length∧i=.int .i64 j∧t=.string (ez (M.take j))∧w1.grownBy wr none) (fun _ i _=>M.length - (intOf i).toNat)
  case atStart=>exact⟨0,Nat.zero_le _,rfl,rfl,ag _ _⟩
  case round=>
   obtain⟨j,hj,rfl,rfl,hg⟩:=hrel
   have HG:=af hg
   by_cases hlt:j<M.length
   ·have how:=aq HOW.out hg (fun g hg=>by cases hg)
    obtain⟨gl,rfl,_,hgb,hgl,hcell⟩:=aC how (by omega)
    obtain⟨x0,x1,x2,x3,x4,x5⟩:=gq M j hlt
    have d0:=hcell _ _ x0
    have d1:=hcell _ _ x1
    have d2:=hcell _ _ x2
    have d3:=hcell _ _ x3
    have d4:=hcell _ _ x4
    have d5:=hcell _ _ x5
    have hmj:=HM.out M[j] (List.getElem_mem hlt)
    have HWR:=af (fun W=>ow M[j] W hmj.2 hmj.1)
    have hws:=qE hmj.1
    have HTT:=af (p7 M j hlt)
    have hts:(ez (M.take j)).size≤302*10000000000:=by
     have:=HTS.out j
     have e:(M.take j).length≤10000000000:=by simp;omega
     omega
    unfold ep at HWR
    generalize M[j]=it at*
    obtain⟨tt,htt⟩:∃ tt,tt=ez (M.take j):=⟨_,rfl⟩
    obtain⟨wt,hwt⟩:∃ wt,wt=fN it:=⟨_,rfl⟩
    rw[←htt,←hwt] at HTT
    rw[←htt] at hts ⊢
    rw[←hwt] at hws HWR
    have hs2:(tt++wt).size=tt.size+wt.size:=ByteArray.size_append
    clear how hcell x0 x1 x2 x3 x4 x5 hgb hg htt hwt hmj
    go_wp2_with fail
    go_at_call 64
    refine (HWR.out _).mono ?_
    rintro er w2 ⟨rfl,hg2⟩
    have HG2:=af hg2
    clear hg2
    go_wp2_with fail
    go_roundw
    case rel=>exact⟨j+1,by omega,by go_num,by rw[HTT.out],ae HG.out HG2.out⟩
    case measure=>simp[intOf];omega
   ·have e:M.take j=M:=List.take_of_length_le (by omega)
    rw[e]
    clear hg
    go_wp2_with fail
    go_ret2
    exact⟨rfl,ae HG1.out HG.out⟩
 ·exfalso
  have:=HFS.out
  rw[iP hn] at this
  cases this
theorem ry (Q:Value→eV) (y:Nat) (E:bk) (f:List Nat) (n:Int) (w:World) (hE:bJ Q y E w f) (hW:kB E) (hf:dq E.opn n=none) :
  Calls Tryz.prog 32 #[.pointer (some ⟨y,0,none⟩),.int .i64 n] w fun e w'=>e=.returned (.tuple #[.string ByteArray.empty,.int .i64 6])∧w.grownBy w' none:=by
 obtain⟨rv,cv,kv,ov,cs,ps,f1,f2,⟨hb,rfl⟩,⟨f3,f4,_,⟨f5,f6,⟨hcr,_⟩,⟨f7,f8,hcom,⟨f9,f10,_,⟨f11,f12,⟨hor,_⟩,hses,_⟩,_⟩,_⟩,_⟩,_⟩,_⟩:=hE
 obtain⟨ao,mo,co,rfl⟩:=an hor
 have d4:w.cell? ⟨y,4,none⟩=some (.slice ao mo co):=by simp[World.cell?,hb]
 have HF:=af (dW y E.opn ps f12 n ao mo co w d4 hor hses (by have:=hW.opnLen;omega))
 have HFS:=af hf
 clear hb hses hcom d4 hor hf hcr
 go_enter Tryz.func32,Tryz.ntmps32
 go_wp2_with fail
 go_at_call 44
 refine HF.out.mono ?_
 rintro e w' ⟨⟨u,rfl,hans⟩,rfl⟩
 rcases hans with ⟨k,h1,h2,hn1,hn2,rfl⟩|⟨hn,rfl⟩
 ·exfalso
  have:=HFS.out
  rw[gh h1 hn1 hn2] at this
  cases this
 ·clear hn HF HFS
  go_wp2_with fail
  go_ret2
  exact⟨rfl,ag _ _⟩
def qA (E:bk) (k:Nat) (S:br):bk:={ E with opn:=E.opn.set k S }
structure qT (g1:Nat) (wv fv:Value) (S:br) (w:World):Prop where
 blk:w.heap[g1]?=some (.cells #[.int .i64 S.num,.int .i64 S.snap,wv,fv] 100 (0,0))
 wr:w.ownsRow 0 107 2 wv S.wr.length (aO S.wr)
 fd:w.ownsRow 0 9 1 fv S.fired.length (S.fired.map Value.string)
def gK (g1:Nat) (wv fv:Value):List Nat:=[g1]++(wv.ownBlock.toList++fv.ownBlock.toList)
theorem qT.nodup {g1:Nat} {wv fv:Value} {S:br} {w:World} (h:qT g1 wv fv S w):(gK g1 wv fv).Nodup:=by
 have h1:=aS h.wr h.blk (by decide)
 have h2:=aS h.fd h.blk (by decide)
 have h3:∀ g,wv.ownBlock=some g→fv.ownBlock≠some g:=fun g hg=>by
  obtain⟨cs,hc⟩:=fu h.wr g hg
  exact aS h.fd hc (by decide)
 unfold gK
 cases hw:wv.ownBlock with
 |none=>
  cases hf:fv.ownBlock with
  |none=>simp
  |some b=>
   rw[hf] at h2
   simp
   exact fun e=>h2 (by rw[e])
 |some a=>
  rw[hw] at h1
  cases hf:fv.ownBlock with
  |none=>
   simp
   exact fun e=>h1 (by rw[e])
  |some b=>
   rw[hf] at h2
   have:=h3 a hw
   rw[hf] at this
   simp
   exact⟨⟨fun e=>h1 (by rw[e]),fun e=>h2 (by rw[e])⟩,fun e=>this (by rw[e])⟩
theorem qT.ses {g1:Nat} {wv fv:Value} {S:br} {w:World} (h:qT g1 wv fv S w):eA (.pointer (some ⟨g1,0,none⟩)) S w (gK g1 wv fv):=
 ⟨g1,wv,fv,rfl,[g1],_,⟨h.blk,rfl⟩,⟨_,_,⟨h.wr,rfl⟩,⟨h.fd,rfl⟩,rfl⟩,rfl⟩
theorem xg {L fa g fb:List Nat} (h:(L++(fa++(g++fb))).Nodup):∀ x,(x∈L∨x∈fa∨x∈fb)→x∉g:=by
 simp only[List.nodup_append,List.mem_append] at h
 intro x hx hx2
 grind
theorem bJ.focus {Q:Value→eV} (hQ:∀ v,bS (Q v)) (hQw:∀ v,bX (Q v)) {y:Nat} {E:bk} {w:World} {f:List Nat} (hE:bJ Q y E w f) (hn:f.Nodup) (k:Nat) (hk:k<E.opn.length) :
  ∃ (g1:Nat) (wv fv rv:Value) (ao:Option Addr) (mo co:Nat) (ps:List Value) (fo:List Nat) (ac:Option Addr) (cc:Nat) (cs:List Value) (fc:List Nat),
    w.cell? ⟨y,4,none⟩=some (.slice ao mo co)∧w.ownsRow 0 96 1 (.slice ao mo co) E.opn.length ps∧aA eA ps E.opn w fo∧(∀ h:k<ps.length,ps[k]=.pointer (some ⟨g1,0,none⟩))∧
    qT g1 wv fv E.opn[k] w∧y≠g1∧
    (∀ wv' fv' S' w',qT g1 wv' fv' S' w'→Fr (gK g1 wv fv) w w'→im y E.com S' (.pointer (some ⟨g1,0,none⟩)) ac cc cs fc (gK g1 wv' fv') w'∧w'.cell? ⟨y,0,none⟩=some rv∧∃ f3,Q rv w' f3)∧
    (∀ wv' fv' S' w',qT g1 wv' fv' S' w'→(∀ x∈gK g1 wv' fv',x∈gK g1 wv fv∨w.heap.size≤x)→Fr (gK g1 wv fv) w w'→cL (bJ Q y (qA E k S')) f w w'):=by
 obtain⟨rv,cv,kv,ov,cs,ps,hst⟩:=hE
 have hwi:∀ x∈f,x<w.heap.size:=fun x hx=>bY.within (e7.within _ _ _) (bY.within (hQw rv) (bY.within (bn.within _ _ _ _ _) (bY.within (aA.within (fun _ _=>bn.within _ _ _ _ _) _ _) (bY.within (bn.within _ _ _ _ _) (bY.within (bn.within _ _ _ _ _) (aA.within eA.within _ _)))))) hst x hx
 obtain⟨f1,f2,⟨hb,rfl⟩,⟨f3,f4,hq,⟨f5,f6,hcr,⟨f7,f8,hcom,⟨f9,f10,hkr,⟨f11,f12,hor,hses,rfl⟩,rfl⟩,rfl⟩,rfl⟩,rfl⟩,rfl⟩:=hst
 obtain⟨ao,mo,co,rfl⟩:=an hor.1
 obtain⟨ac,mc,cc,rfl⟩:=an hcr.1
 have emc:=ar hcr.1
 subst emc
 have hpl:=aA.len hses
 have hk2:k<ps.length:=by omega
 obtain⟨fa,g,fb,hse,e12,hput⟩:=aA.focus eA.framed hses k hk2 hk
 obtain⟨g1,wv,fv,hp,u1,u2,⟨hb1,rfl⟩,⟨u3,u4,⟨h1,rfl⟩,⟨h2,rfl⟩,rfl⟩,rfl⟩:=hse
 have hSO:qT g1 wv fv E.opn[k] w:=⟨hb1,h1,h2⟩
 have hses':=hses
 subst e12
 have hn2:((([y]++(f3++(f5++(f7++(f9++f11))))))++(fa++(gK g1 wv fv++fb))).Nodup:=by
  simp only[List.append_assoc,gK] at hn ⊢
  exact hn
 have hdis:=xg hn2
 have hyl:=lt_of_block hb
 refine⟨g1,wv,fv,rv,ao,mo,co,ps,_,ac,cc,cs,f7,by simp[World.cell?,hb],hor.1,hses',fun _=>hp,hSO,?_,?_,?_⟩
 ·intro e
  exact hdis y (.inl (by simp)) (by rw[e];simp[gK])
 ·intro wv' fv' S' w' hS hfr
  have hby:=(hfr.block y hyl (hdis y (.inl (by simp)))).trans hb
  refine⟨⟨by simp[World.cell?,hby],(bn.framed _ _ _ _ _ hcr hfr (fun x hx=>hdis x (.inl (by simp[hx])))).1,aA.framed ik.framed _ _ hcom hfr (fun x hx=>hdis x (.inl (by simp[hx]))),hS.ses⟩,by simp[World.cell?,hby],f3,hQ rv hq hfr (fun x hx=>hdis x (.inl (by simp[hx])))⟩
 ·intro wv' fv' S' w' hS hsub hfr
  have hE2:=hput _ _ w' _ _ hS.ses hfr (fun x hx=>hdis x (.inr (.inl hx))) (fun x hx=>hdis x (.inr (.inr hx)))
  have hps:ps.set k (.pointer (some ⟨g1,0,none⟩))=ps:=by rw[←hp];simp
  rw[hps] at hE2
  have hlen:(qA E k S').opn.length=E.opn.length:=by simp[qA]
  refine⟨([y]++(f3++(f5++(f7++(f9++(f11++(fa++(gK g1 wv' fv'++fb)))))))),⟨rv,_,kv,_,cs,ps,[y],_,e7.framed _ _ _ ⟨hb,rfl⟩ hfr (fun x hx=>hdis x (.inl (by simp at hx ⊢;simp[hx]))),⟨f3,_,hQ rv hq hfr (fun x hx=>hdis x (.inl (by simp[hx]))),⟨f5,_,bn.framed _ _ _ _ _ hcr hfr (fun x hx=>hdis x (.inl (by simp[hx]))),⟨f7,_,aA.framed ik.framed _ _ hcom hfr (fun x hx=>hdis x (.inl (by simp[hx]))),⟨f9,_,bn.framed _ _ _ _ _ hkr hfr (fun x hx=>hdis x (.inl (by simp[hx]))),⟨f11,_,?_,hE2,rfl⟩,rfl⟩,rfl⟩,rfl⟩,rfl⟩,rfl⟩,?_,?_,?_⟩
  ·rw[hlen]
   exact bn.framed _ _ _ _ _ hor hfr (fun x hx=>hdis x (.inl (by simp[hx])))
  ·have hsz:∀ x∈(([y]++(f3++(f5++(f7++(f9++f11)))))++fa)++(gK g1 wv fv++fb),x<w.heap.size:=by
    intro x hx
    apply hwi x
    simp only[List.append_assoc,gK] at hx ⊢
    exact hx
   have hn3:((([y]++(f3++(f5++(f7++(f9++f11)))))++fa)++(gK g1 wv fv++fb)).Nodup:=by
    simp only[List.append_assoc] at hn2 ⊢
    exact hn2
   have:=eb hn3 hsz hS.nodup hsub
   simp only[List.append_assoc] at this ⊢
   exact this
  ·intro x hx
   simp only[List.mem_append,List.mem_singleton] at hx ⊢
   have h5:x∈gK g1 wv' fv'→x∈gK g1 wv fv∨w.heap.size≤x:=hsub x
   simp only[gK,List.mem_append,List.mem_singleton] at h5 hx
   grind
  ·refine hfr.mono (fun x hx=>.inl ?_)
   simp only[gK,List.mem_append,List.mem_singleton] at hx ⊢
   grind
def gJ (n:Nat):ByteArray:=if h:n<10 then strOfNums [48+(n:Int) % 10] else gJ (n / 10)++strOfNums [48+(n:Int) % 10]
termination_by n
decreasing_by omega
def un (n:Nat):ByteArray:=if n<10 then ByteArray.empty else gJ (n / 10)
theorem uV (n:Nat):gJ n=un n++strOfNums [48+(n:Int) % 10]:=by
 rw[gJ]
 unfold un
 split
 ·rw[ByteArray.empty_append]
 ·rfl
theorem AW {k:Nat} (h:10≤k):un k=un (k / 10)++strOfNums [48+(k:Int) / 10 % 10]:=by
 conv=>lhs;unfold un
 rw[if_neg (by omega),uV]
 congr 2
theorem qK (n:Nat) (w:World) (hn:n≤9223372036854775807) :
  Calls Tryz.prog 99 #[.int .i64 n] w fun e w'=>(e=.returned (.string (gJ n))∧(gJ n).size≤20)∧w.grownBy w' none:=by
 have hcv:∀ (W:World) (x:Int),0≤x→x≤255→_:=fun W x (_:0≤x) (_:x≤255)=>run_convert_bytes_arg (P:=Tryz.prog) (W.alloc (.cells #[.int .u8 x] 5)) 160 5 Tryz.underlying160 Tryz.underlying5 W.heap.size 0 1 1 [x] rfl (by
  intro i hi
  rw[World.cell?_alloc_at _ _ _ _ rfl]
  match i,hi with
  |0,_=>rfl) 9 Tryz.underlying9
 have HCV:=af hcv
 clear hcv
 have h0:=HCV.out w (48+(n:Int) % 10) (by omega) (by omega)
 have b0:(48:Int)+(n:Int) % 10≤255:=by omega
 have hs0:(strOfNums [48+(n:Int) % 10]).size=1:=rfl
 have HI:Hid (n<10 ^ 19):=af (by have:(10:Nat) ^ 19=10000000000000000000:=by decide
                     omega)
 go_enter Tryz.func99,Tryz.ntmps99
 go_wp2_with fail
 go_loopw [3,0] (fun v t wr=>∃ (k m:Nat) (u:ByteArray),t=.int .i64 k∧k≤n∧v=.string u∧u.size+m=20∧k<10 ^ m∧w.grownBy wr none∧un k++u=gJ n) (fun _ t _=>(intOf t).toNat)
 case atStart=>exact⟨n,19,strOfNums [48+(n:Int) % 10],rfl,Nat.le_refl _,rfl,rfl,HI.out,ab (ag _ _) _,(uV n).symm⟩
 case round=>
  obtain⟨k,m,u,rfl,hkn,rfl,hum,hkm,hg,hdec⟩:=hrel
  have HG:=af hg
  have HDEC:=af hdec
  clear hdec
  by_cases hk10:10≤k
  ·have hm2:2≤m:=by
    apply Classical.byContradiction
    intro h
    have:m=0∨m=1:=by omega
    rcases this with e|e <;> subst e <;> simp at hkm <;> omega
   have h1:=HCV.out wr (48+(k:Int) / 10 % 10) (by omega) (by omega)
   have b1:(48:Int)+(k:Int) / 10 % 10≤255:=by omega
   have b2:(0:Int)≤(k:Int) / 10:=by omega
   have b3:(k:Int) / 10≤9223372036854775807:=by omega
   have hs1:(strOfNums [48+(k:Int) / 10 % 10]).size=1:=rfl
   have hus:u.size≤18:=by omega
   have HK:Hid (k / 10<10 ^ (m - 1)):=af (by
    have e:10 ^ m=10 ^ (m - 1)*10:=by rw[←Nat.pow_succ];congr 1;omega
    rw[e] at hkm
    exact Nat.div_lt_of_lt_mul (by omega))
   have hkI:(10:Int)≤(k:Int):=by omega
   have HS2:Hid ((strOfNums [48+(k:Int) / 10 % 10]++u).size+(m - 1)=20):=af (by rw[ByteArray.size_append,hs1];omega)
   have hdk:((k / 10:Nat):Int)=(k:Int) / 10:=by omega
   have HDK:=af hdk
   obtain⟨nt,hnt⟩:∃ nt,nt=strOfNums [48+(k:Int) / 10 % 10]:=⟨_,rfl⟩
   rw[←hnt] at h1 hs1 HS2
   have hkk:k / 10<k:=by omega
   have HD2:Hid (un (k / 10)++(nt++u)=gJ n):=af (by rw[hnt,←HDEC.out,AW hk10,ByteArray.append_assoc])
   clear hkm hg hdk hnt
   go_wp2_with fail
   go_roundw
   case rel=>exact⟨k / 10,m - 1,nt++u,by rw[HDK.out],by omega,rfl,HS2.out,HK.out,ab HG.out _,HD2.out⟩
   case measure=>simp[intOf];omega
  ·have hkI:¬(10:Int)≤(k:Int):=by omega
   have HU:Hid (u=gJ n):=af (by
    rw[←HDEC.out]
    unfold un
    rw[if_pos (by omega),ByteArray.empty_append])
   clear hg hkm
   go_wp2_with fail
   go_ret
   exact⟨⟨by rw[←HU.out];rfl,by rw[←HU.out];omega⟩,HG.out⟩
end Go.Proofs.YthlhbjnkohinmaaGreat
