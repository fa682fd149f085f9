package cluster

import (
	"rampart/api"
	"rampart/disk"
	"rampart/host"
)

// worker serves what is asked of a partition, one request behind the other. Until it has ended nobody else touches the host.
type worker struct {
	host     *host.Host
	requests chan func(h *host.Host)
}

// engage sets a worker to a new partition.
func (c *Cluster) engage(index int, config api.Config) {
	w := &worker{host: host.New(disk.New(), index, config), requests: make(chan func(h *host.Host))}
	c.workers = append(c.workers, w)
	c.ends.Add(1)
	go func() {
		defer c.ends.Done()
		w.serve(c.done)
	}()
}

// serve goes on until done is closed.
func (w *worker) serve(done <-chan struct{}) {
	for {
		select {
		case request := <-w.requests:
			request(w.host)
		case <-done:
			return
		}
	}
}

// ask is what a partition's worker finds when it does something with its host; of a number that is no partition's it is nothing.
func ask[T any](c *Cluster, part int, do func(h *host.Host) T) T {
	if part < 0 || part >= len(c.workers) {
		var nothing T
		return nothing
	}
	w := c.workers[part]
	if c.closed {
		return do(w.host)
	}
	found := make(chan T)
	w.requests <- func(h *host.Host) { found <- do(h) }
	return <-found
}
