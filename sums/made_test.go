package sums_test

import (
	"os"
	"os/exec"
	"sync"
	"testing"

	"versal/sample"
	"versal/sums"
)

// The table is made once a program, so that what Made answers ahead of it can
// be told only in a program of which nobody has asked anything yet: each of
// these runs is the test program, started anew with the run's name in runName.
const runName = "VERSAL_SUMS_RUN"

func runs() map[string]func(t *testing.T) {
	return map[string]func(t *testing.T){
		"nothing":  runNothing,
		"adler":    runAdler,
		"none":     func(t *testing.T) { runFirst(t, nil) },
		"empty":    func(t *testing.T) { runFirst(t, []byte{}) },
		"byte":     func(t *testing.T) { runFirst(t, []byte{0}) },
		"bytes":    func(t *testing.T) { runFirst(t, sample.Bytes(5000, 3)) },
		"together": runTogether,
		"among":    runAmong,
	}
}

func TestMadeInNewPrograms(t *testing.T) {
	if os.Getenv(runName) != "" {
		t.Skip("within a run")
	}
	self, err := os.Executable()
	if err != nil {
		t.Fatal(err)
	}
	for name := range runs() {
		// Goroutines meet otherwise each time, hence several runs of these.
		times := 1
		if name == "together" || name == "among" {
			times = 12
		}
		for range times {
			command := exec.Command(self, "-test.run=^TestOneRun$", "-test.count=1")
			command.Env = append(os.Environ(), runName+"="+name)
			if told, err := command.CombinedOutput(); err != nil {
				t.Errorf("run %q: %v\n%s", name, err, told)
			}
		}
	}
}

func TestOneRun(t *testing.T) {
	name := os.Getenv(runName)
	if name == "" {
		t.Skip("run by TestMadeInNewPrograms")
	}
	run, ok := runs()[name]
	if !ok {
		t.Fatalf("no run %q", name)
	}
	run(t)
}

func holdMade(t *testing.T, want int, when string) {
	t.Helper()
	if got := sums.Made(); got != want {
		t.Errorf("6.1: Made %s: %d, not %d", when, got, want)
	}
}

// 6.1: asking Made makes nothing.
func runNothing(t *testing.T) {
	for range 3 {
		holdMade(t, 0, "ahead of all")
	}
}

// 6.1: Adler looks nothing up.
func runAdler(t *testing.T) {
	for _, n := range []int{0, 1, 9000, 100000} {
		sums.Adler(sample.Bytes(n, n))
		holdMade(t, 0, "behind an Adler")
	}
}

// 6.1: the first Crc makes it, whatever it is given, and none behind it.
func runFirst(t *testing.T, b []byte) {
	holdMade(t, 0, "ahead of the first Crc")
	if got := sums.Crc(b); got != wantCrc(b) {
		t.Errorf("6.1: the first Crc: %08x, not %08x", got, wantCrc(b))
	}
	holdMade(t, 1, "behind the first Crc")
	for k := range 200 {
		hold(t, sample.Bytes(k, k))
		holdMade(t, 1, "behind many")
	}
}

// start runs f in n goroutines that start at one time, and joins them.
func start(n int, f func(k int)) {
	var wait sync.WaitGroup
	begin := make(chan struct{})
	for k := range n {
		wait.Add(1)
		go func() {
			defer wait.Done()
			<-begin
			f(k)
		}()
	}
	close(begin)
	wait.Wait()
}

// 6.1: of several first Crcs at a time one makes it, and each finds it whole.
func runTogether(t *testing.T) {
	const hands = 64
	var list [hands][]byte
	var want, got, seen [hands]int
	for k := range list {
		list[k] = sample.Bytes(1+k, k)
		want[k] = wantCrc(list[k])
	}
	holdMade(t, 0, "ahead of the first Crc")
	start(hands, func(k int) {
		got[k] = sums.Crc(list[k])
		seen[k] = sums.Made()
	})
	for k := range list {
		if got[k] != want[k] || seen[k] != 1 {
			t.Errorf("6.1: at one time: %d: %08x, not %08x; made %d times", k, got[k], want[k], seen[k])
		}
	}
	holdMade(t, 1, "behind those at one time")
}

// 6.1: Made and Adler beside a first Crc: 0, or 1 and never 0 again.
func runAmong(t *testing.T) {
	const hands, steps = 32, 200
	var back, wrong [hands]int
	b := sample.Bytes(50, 23)
	adler, crc := wantAdler(b), wantCrc(b)
	start(hands, func(k int) {
		last := 0
		for step := range steps {
			now := sums.Made()
			if now < last || now > 1 {
				back[k]++
			}
			last = now
			if sums.Adler(b) != adler {
				wrong[k]++
			}
			if step >= k && sums.Crc(b) != crc {
				wrong[k]++
			}
		}
	})
	if back != [hands]int{} || wrong != [hands]int{} {
		t.Errorf("6.1: out of turn: %v; wrong sums: %v", back, wrong)
	}
	holdMade(t, 1, "behind all")
}

// 6.1: several goroutines ask one list of bytes at a time.
func TestTogether(t *testing.T) {
	const hands = 16
	b := sample.Bytes(20000, 29)
	was := string(b)
	adler, crc := wantAdler(b), wantCrc(b)
	var wrong [hands]int
	start(hands, func(k int) {
		for range 20 {
			if sums.Adler(b) != adler || sums.Crc(b) != crc || sums.Made() != 1 {
				wrong[k]++
			}
		}
	})
	if wrong != [hands]int{} || string(b) != was {
		t.Errorf("6.1: wrong sums: %v", wrong)
	}
}

// 6.1: Made is 1 behind whatever this program's other tests have asked.
func TestMadeStaysOne(t *testing.T) {
	sums.Crc(nil)
	for range 1000 {
		sums.Crc([]byte("abc"))
	}
	holdMade(t, 1, "behind many")
}
