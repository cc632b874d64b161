"""Linking: the order of modules by their imports. Modules are given as a dict by their names."""

from leastlog.failures import ImportRing, MissingModule


def check_imports(modules):
    """Raises MissingModule or ImportRing if the modules cannot be linked."""
    for importer in sorted(modules):
        for name in modules[importer].imports():
            if name not in modules:
                raise MissingModule(name, importer)
    ring = shortest_ring(modules)
    if ring is not None:
        raise ImportRing(ring)


def linked_order(modules):
    """The names of modules without rings, each behind its imports, of several the smallest first."""
    placed = {}
    while len(placed) < len(modules):
        waiting = [name for name in sorted(modules) if name not in placed]
        ready = [name for name in waiting if all([other in placed for other in modules[name].imports()])]
        placed[ready[0]] = True
    return list(placed)


def shortest_ring(modules):
    """The first in order of the shortest rings of imports; None if there is none."""
    best = None
    for name in sorted(modules):
        ring = first_ring_from(name, modules)
        if ring is not None and (best is None or len(ring) < len(best)):
            best = ring
    return best


def first_ring_from(start, modules):
    """The first in order of the shortest rings that begin with this name, or None."""
    steps = steps_to(start, modules)
    lengths = [steps[name] for name in modules[start].imports() if name in steps]
    if not lengths:
        return None
    ring = [start]
    for left in range(min(lengths), 0, -1):
        ring.append(min([name for name in modules[ring[-1]].imports() if steps.get(name) == left]))
    return ring


def steps_to(target, modules):
    """The least numbers of imports that lead from modules to the target, for those from which it can be reached."""
    steps = {target: 0}
    latest = [target]
    while latest:
        found = [name for name in sorted(modules) if name not in steps and imports_any(modules[name], latest)]
        for name in found:
            steps[name] = steps[latest[0]] + 1
        latest = found
    return steps


def imports_any(module, names):
    """Whether the module imports one of these."""
    return any([name in names for name in module.imports()])
