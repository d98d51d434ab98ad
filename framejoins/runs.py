"""The frames of edits, with repeats as runs of copies, so that long edits stay short."""

from framejoins.sources import last_at_most
from framejoins.tables import START

# Frames and runs have in common: span, their samples; inner, their records but for a state record before the first
# frame; first and last, the tables before their first and behind their last frame; many and staying, their frames
# and those that stay.


def lead_between(behind, first):
    """Return how many state records stand between frames with these tables: 0 or 1."""
    return 0 if behind == first else 1


class Frame:
    """A frame of an edit."""

    def __init__(self, own, coded, told, first, last):
        self.own = own
        self.span = len(own)
        self.coded = coded
        self.told = told
        self.inner = 1
        self.first = first
        self.last = last
        self.many = 1
        self.staying = 1 if told[0] == "kept" else 0


class Run:
    """So many copies of frames and runs that follow each other."""

    def __init__(self, copies, nodes):
        self.old = None
        self.copies = copies
        self.nodes = nodes
        self.first = nodes[0].first if nodes else START
        self.last = nodes[-1].last if nodes else START
        # The state record before the first frame belongs to what stands around the run.
        self.leads = [0] + [lead_between(nodes[at - 1].last, nodes[at].first) for at in range(1, len(nodes))]
        self.gap = lead_between(self.last, self.first)
        self.sample_starts = starts_of([node.span for node in nodes])
        self.record_starts = starts_of([lead + node.inner for lead, node in zip(self.leads, nodes)])
        self.copy_span = self.sample_starts[-1]
        self.copy_inner = self.record_starts[-1]
        self.span = copies * self.copy_span
        self.inner = copies * self.copy_inner + (copies - 1) * self.gap
        self.many = copies * sum([node.many for node in nodes])
        self.staying = copies * sum([node.staying for node in nodes])


def starts_of(lengths):
    """Return the places of things that follow each other, and the one behind the last."""
    starts = [0]
    for length in lengths:
        starts.append(starts[-1] + length)
    return starts


def found_record(run, index):
    """Return the frame of a record, or None for a state record, and the tables with which the frame is read.

    The index counts from the first frame of the run on.
    """
    node, lead = run, 0
    while index >= lead and isinstance(node, Run):
        index = (index - lead) % (node.copy_inner + node.gap)
        if index == node.copy_inner:
            return None, node.first
        at = last_at_most(node.record_starts, index)
        index -= node.record_starts[at]
        node, lead = node.nodes[at], node.leads[at]
    return (None if index < lead else node), node.first


def found_sample(run, place):
    """Return the sample at a place."""
    node = run
    while isinstance(node, Run):
        place = place % node.copy_span
        at = last_at_most(node.sample_starts, place)
        place -= node.sample_starts[at]
        node = node.nodes[at]
    return node.own[place]
