package play_test

import (
	"math"
	"math/rand"
	"slices"
	"strconv"
	"strings"
	"testing"

	"moraine/api"
	"moraine/play"
	"moraine/script"
)

// plays checks what a script tells, line by line.
func plays(t *testing.T, sectors, per int, lines ...string) {
	t.Helper()
	var s, want string
	for _, line := range lines {
		act, told, _ := strings.Cut(line, " => ")
		s, want = s+act+"\n", want+told+"\n"
	}
	if got, at, err := play.Text(sectors, per, s); got != want || at != 0 || err != api.OK {
		t.Errorf("%s tells\n%s%d, %d, want\n%s", s, got, at, err, want)
	}
}

func TestTheExample(t *testing.T) {
	plays(t, 64, 8, "commit 0 : class node n:num ; new node 5 ; root top -1 => commit 0 : 1", `ask "all node" => ask @1`, "crash => crash : 1", `ask "all node" => ask @1`)
}

func TestActs(t *testing.T) {
	plays(t, 64, 8,
		"collect 0 => collect rest", "commit => commit : 0", "commit 0 : | 0 : see a | 1 : => commit 0 0 141 : 0",
		"commit 0 : class c a:num b:text l:list.ref r:ref | 0 : read 5 | 1 : => commit 0 101 141 : 1",
		`commit 1 : new c 5 "x y" [@-1 -] - ; root a -1 | 1 : new c 6 "" [] @-1 ; root b -1 => commit 0 0 : 3`,
		`ask "all c" => ask @1 @2`, `ask "a" => ask @1`, `ask "a.b" => ask "x y"`, `ask "a.l" => ask [@1 -]`, `ask "a.r" => ask -`, `ask "b.a" => ask 6`, `ask "x" => ask ! 161`, `ask "" => ask ! 160`, `ask "all d" => ask ! 40`, `ask "all c where a > 6" => ask`,
		"commit 2 : set 1 a 9 | 2 : read 1 | 2 : see b | 3 : set 9 a 1 => commit 0 180 180 101 : 4", "collect 1 => collect on", "collect 1 => collect rest", "collect 0 => collect on", "crash 5 => crash : 4", `ask "a.a" => ask 9`,
		"commit 3 : see a => commit 141 : 4", "commit 4 : change c add x num \"a * 2\" ; snap s => commit 0 : 5", `ask "a.x" => ask 18`, "commit 5 : unroot a ; unroot b => commit 0 : 6", `ask "all c" => ask`,
	)
}

// TestExamplesOfTheWhole plays those of the document that scripts can tell.
func TestExamplesOfTheWhole(t *testing.T) {
	node := "commit 0 : class node n:num next:ref ; new node 1 @-2 ; new node 2 @-1 ; root top -2 => commit 0 : 1"
	plays(t, 64, 8, node, `ask "top.next.n" => ask 1`, `ask "all node where n > 1" => ask @2`)
	plays(t, 64, 8, node, "commit 1 : class c w:weak ; new c ~1 ; root c -1 => commit 0 : 2", `ask "c.w" => ask ~1`, "commit 2 : unroot top => commit 0 : 3", `ask "all node" => ask`, `ask "c.w" => ask -`)
	name := `commit 0 : class p name:text ; new p "ab c" ; root p -1 ; new p "xyz" ; root q -2 => commit 0 : 1`
	split := `commit 1 : change p split name one more text "left(name, 2)" "from(name, 3)" => commit 0 : 2`
	for _, collect := range []string{"collect 0 => collect on", "collect 9 => collect rest"} {
		plays(t, 64, 8, name, collect, split, `ask "p.one" => ask "ab"`, `ask "p.more" => ask "c"`, collect, "crash => crash : 2", `ask "p.one" => ask "ab"`, `ask "p.more" => ask "c"`, `ask "q.one" => ask "xy"`, `ask "q.more" => ask ""`)
	}
	plays(t, 64, 8, node, "commit 1 : read 1 ; set 1 n 5 | 1 : read 1 ; set 1 n 6 => commit 0 180 : 2", `ask "top.next.n" => ask 5`)
	plays(t, 64, 8, "commit 0 : class c a:num ; new c 1 ; root home -1 => commit 0 : 1", "cut 2 => cut 0", "commit 1 : new c 2 ; root home -1 => commit 22", "crash 0 => crash : 2", `ask "home" => ask @2`)
}

func TestPowerGoesAndComesAgain(t *testing.T) {
	head := "commit 0 : class c a:num ; new c 1 ; root h -1 => commit 0 : 1"
	plays(t, 64, 8, head, "cut 0 => cut 0", "commit 1 : set 1 a 2 => commit 22", `ask "h.a" => ask ! 261`, "commit 1 : => commit 261", "collect 5 => collect 261", "crash => crash : 1", `ask "h.a" => ask 1`)
	plays(t, 64, 8, head, "cut 2 => cut 0", "commit 1 : set 1 a 2 => commit 22", "crash => crash : 2", `ask "h.a" => ask 2`)
	plays(t, 64, 8, head, "cut 1 => cut 0", "commit 1 : set 1 a 2 => commit 22", "crash 3 => crash : 2", `ask "h.a" => ask 2`)
	plays(t, 64, 8, head, "cut 1 => cut 0", "commit 1 : set 1 a 2 => commit 22", "crash => crash : 1", `ask "h.a" => ask 1`)
	plays(t, 64, 8, "cut 0 => cut 0", "commit 0 : snap a => commit 22", "collect 1 => collect 261", "crash => crash : 0", "collect 1 => collect rest")
	// Two writes are pending, 0 and 1.
	for crash, told := range map[string]string{"crash 5 2 3 0": "1", "crash 0 1": "1", "crash 5 3": "0", "crash 4": "0", "crash": "0"} {
		answer := map[string]string{"0": "ask ! 161", "1": "ask @1"}[told]
		plays(t, 64, 8, "cut 5 => cut 0", `commit 0 : class c a:text ; new c "`+strings.Repeat("x", 60)+`" ; root h -1 => commit 22`, crash+" => crash : "+told, `ask "h" => `+answer)
	}
}

func TestRot(t *testing.T) {
	head := "commit 0 : class c a:num ; new c 1 ; root h -1 => commit 0 : 1"
	plays(t, 64, 8, head, "rot 1 63 255 => rot 0", `ask "h.a" => ask 1`, "crash => crash rot 1", `ask "h.a" => down`, "commit => down", "collect 1 => down", "cut 5 => cut 0", "rot 1 63 255 => rot 0", "crash => crash : 1", `ask "h.a" => ask 1`)
	plays(t, 64, 8, head, "rot 50 0 1 => rot 0", "rot 64 0 1 => rot 20", "rot 767 0 1 => rot 20", "crash => crash : 1")
	plays(t, 64, 8, head, "rot 0 0 1 => rot 0", "crash 1 => crash rot 0", "crash => crash rot 0")
}

func TestRefusals(t *testing.T) {
	good := []api.Act{{Kind: api.ActCut}}
	for i, x := range []struct {
		sectors, per int
		l            []api.Act
		want         api.Errno
	}{
		{0, 0, []api.Act{{}}, api.ErrPlay}, {0, 0, slices.Repeat(good, 41), api.ErrPlay}, {64, 8, []api.Act{{Kind: api.ActCut, N: -1}}, api.ErrPlay}, {64, 8, []api.Act{{Kind: 7}}, api.ErrPlay}, {64, 8, []api.Act{{Kind: -1}}, api.ErrPlay},
		{0, 0, good, api.ErrArg}, {769, 64, good, api.ErrArg}, {64, 3, good, api.ErrArg}, {64, 64, good, api.ErrArg}, {64, math.MaxInt, good, api.ErrArg}, {math.MinInt, 8, good, api.ErrArg},
	} {
		if lines, err := play.Run(x.sectors, x.per, x.l); len(lines) > 0 || err != x.want {
			t.Errorf("case %d: %q, %d", i, lines, err)
		}
	}
	for s, want := range map[string]int{"x\n": 0, "cut 0\nx\n": 1, "cut 0": 0} {
		if got, at, err := play.Text(0, 0, s); got != "" || at != want || err != api.ErrScript {
			t.Errorf("Text of %q: %q, %d, %d", s, got, at, err)
		}
	}
	if got, at, err := play.Text(0, 8, "cut 0\n"); got != "" || at != 0 || err != api.ErrArg {
		t.Errorf("Text on no disk: %q, %d, %d", got, at, err)
	}
	if got, at, err := play.Text(64, 8, ""); got != "" || at != 0 || err != api.OK {
		t.Errorf("Text of nothing: %q, %d, %d", got, at, err)
	}
	if lines, err := play.Run(64, 8, slices.Repeat(good, 40)); len(lines) != 40 || err != api.OK {
		t.Errorf("forty acts: %d, %d", len(lines), err)
	}
}

// commits are lines of a script: each one sets what it has to.
func commits(r *rand.Rand, many int) []string {
	l := []string{"commit 0 : class c a:num r:ref ; new c 0 - ; root h -1"}
	for n := 1; n < many; n++ {
		base := strconv.Itoa(n)
		l = append(l, "commit "+base+" : "+[]string{
			"set 1 a " + base, "new c " + base + " @1 ; root h" + base + " -1", "set 1 a " + base + " ; snap s", "change c add x" + base + ` num "a + 1"`, "new c 7 - ; set 1 r @-1", "unsnap s ; root k 1",
		}[r.Intn(6)])
	}
	return l
}

// asked are lines that ask for all that the commits made.
var asked = []string{`ask "all c"`, `ask "h.a"`, `ask "h.r"`, `ask "h.r.a"`, `ask "k.a"`, `ask "all c where a > 1"`}

// run is what lines tell.
func run(t *testing.T, per int, lines ...string) []string {
	t.Helper()
	l, at, err := script.Parse(strings.Join(lines, "\n") + "\n")
	if err != api.OK {
		t.Fatalf("line %d of %q: %d", at, lines, err)
	}
	told, err := play.Run(per*10, per, l)
	if err != api.OK || len(told) != len(lines) {
		t.Fatalf("%q tells %q, %d", lines, told, err)
	}
	return told
}

// TestWhatIsCollectedIsNotSeen plays commits with collecting between them, and without.
func TestWhatIsCollectedIsNotSeen(t *testing.T) {
	r := rand.New(rand.NewSource(28))
	for range 60 {
		per := 8 + r.Intn(4)
		plain := append(commits(r, 12), asked...)
		var collected []string
		for _, line := range plain {
			for range r.Intn(3) {
				collected = append(collected, "collect "+strconv.Itoa(r.Intn(5)))
			}
			collected = append(collected, line)
		}
		want := run(t, per, plain...)
		got := run(t, per, collected[:min(len(collected), api.MaxActs)]...)
		got = slices.DeleteFunc(got, func(s string) bool { return strings.HasPrefix(s, "collect ") })
		if !slices.Equal(got, want[:len(got)]) {
			t.Fatalf("%q tells %q, without collecting %q", collected, got, want)
		}
	}
}

// TestBehindAPowerLossThereIsABeginning lets power go behind each number of calls.
func TestBehindAPowerLossThereIsABeginning(t *testing.T) {
	r := rand.New(rand.NewSource(29))
	for range 12 {
		per := 8 + r.Intn(4)
		l := commits(r, 8)
		var answers []string
		for n := range len(l) + 1 {
			told := run(t, per, append(slices.Clone(l[:n]), asked...)...)
			answers = append(answers, strings.Join(told[n:], "\n"))
		}
		for calls := range 60 {
			lines := append([]string{"cut " + strconv.Itoa(calls)}, l...)
			crash := "crash"
			for range r.Intn(4) {
				crash += " " + strconv.Itoa(r.Intn(9))
			}
			told := run(t, per, append(append(lines, crash), asked...)...)
			acked := 0
			for _, line := range told[1 : len(l)+1] {
				if strings.HasPrefix(line, "commit 0 : ") {
					acked++
				}
			}
			n, err := strconv.Atoi(strings.TrimPrefix(told[len(l)+1], "crash : "))
			if err != nil || n < acked || n > acked+1 || n > len(l) || strings.Join(told[len(l)+2:], "\n") != answers[n] {
				t.Fatalf("%q tells %q, %d acknowledged", lines, told, acked)
			}
		}
	}
}

// TestRotIsToldOrWithoutBearing turns bytes of all sectors, and loses power.
func TestRotIsToldOrWithoutBearing(t *testing.T) {
	r := rand.New(rand.NewSource(30))
	l := append(commits(r, 10), "collect 100", "collect 100")
	want := run(t, 8, append(slices.Clone(l), asked...)...)[len(l):]
	told := 0
	for sector := range 80 {
		for range 4 {
			rot := "rot " + strconv.Itoa(sector) + " " + strconv.Itoa(r.Intn(64)) + " " + strconv.Itoa(1+r.Intn(255))
			got := run(t, 8, append(append(slices.Clone(l), rot, "crash"), asked...)...)[len(l)+1:]
			if got[0] == "crash rot "+strconv.Itoa(sector) {
				told++
			} else if !strings.HasPrefix(got[0], "crash : ") || !slices.Equal(got[1:], want) {
				t.Fatalf("%s: %q, want %q", rot, got, want)
			}
		}
	}
	if told == 0 {
		t.Error("nothing is told")
	}
}
