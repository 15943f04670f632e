package tiles_test

import (
	"math/rand"
	"runtime"
	"slices"
	"sync"
	"testing"
	"time"

	"tiles/api"
	"tiles/tiles"
)

// manyTiles has as many tiles as may be, for as many workers as may be.
func manyTiles(seed int64) api.Task {
	k := anyTask(rand.New(rand.NewSource(seed)), 24, 24, 24)
	k.Job.BlockRows, k.Job.BlockCols, k.Job.BlockDepth, k.Job.Workers = 1, 1, 5, 64
	return k
}

func TestP2HoweverTheWorkersRun(t *testing.T) {
	k := manyTiles(30)
	want := wantMultiply(k)
	for _, processors := range []int{1, 2, 3, runtime.NumCPU()} {
		before := runtime.GOMAXPROCS(processors)
		for range 20 {
			checkMultiply(t, "again", k, want)
		}
		runtime.GOMAXPROCS(before)
	}
}

// Calls that run at the same time, on the same lists, do not get into each other's way.
func TestP2CallsAtTheSameTime(t *testing.T) {
	first, second := manyTiles(31), manyTiles(32)
	wantFirst, wantSecond := wantMultiply(first), wantMultiply(second)
	var all sync.WaitGroup
	for range 16 {
		all.Go(func() {
			checkMultiply(t, "first", first, wantFirst)
			checkMultiply(t, "second", second, wantSecond)
		})
	}
	all.Wait()
}

// checkWorkersEnd holds that all workers have ended when a call answers: what comes out does not change any more, and none is left.
func checkWorkersEnd(t *testing.T, call func() [][]int) {
	t.Helper()
	before := runtime.NumGoroutine()
	for range 50 {
		for _, got := range call() {
			at := slices.Clone(got)
			runtime.Gosched()
			if !slices.Equal(got, at) {
				t.Fatal("what came out changed behind the call")
			}
		}
	}
	// One that has told that it is done may still be on its way out.
	for range 500 {
		if runtime.NumGoroutine() <= before {
			return
		}
		time.Sleep(10 * time.Millisecond)
	}
	t.Errorf("%d goroutines ahead of the calls, %d behind them", before, runtime.NumGoroutine())
}

func TestP1WorkersEnd(t *testing.T) {
	k := manyTiles(33)
	checkWorkersEnd(t, func() [][]int {
		got, _ := tiles.Multiply(k.Job, k.Left, k.Right, k.Out)
		return [][]int{got}
	})
}
